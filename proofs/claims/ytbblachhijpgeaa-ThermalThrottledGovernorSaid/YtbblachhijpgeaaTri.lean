/- Trips. -/
import Derived.Test.YtbblachhijpgeaaUpd
import Derived.Test.YtbblachhijpgeaaRat
import Derived.Deep.AppendLies
namespace Go.Proofs.Ytbblachhijpgeaa
open Go.RowKit

theorem mod_q (v : Int) (n : Nat) (hn : 1 ≤ n) (hn2 : n ≤ 1000000) (w : World) : Calls Try.prog 14 #[.int .i64 v, .int .i64 n] w fun e w' => e = .returned (.int .i64 (modOf v n : Nat)) ∧ w' = w :=
  (mod_any v n hn hn2 w).mono fun _ _ h => ⟨h.1, h.2.symm⟩
theorem mod_i64 (v : Int) (n : Nat) (hn : 1 ≤ n) (hn2 : n ≤ 1000000) : IntKind.i64.wrap ((IntKind.u64.wrap v).tmod n) = (modOf v n : Nat) := by
  have h0 : 0 ≤ IntKind.u64.wrap v := by rw [IntKind.wrap_u64]; omega
  have h1 : (IntKind.u64.wrap v).tmod n = (IntKind.u64.wrap v) % n := Int.tmod_eq_emod_of_nonneg h0
  have h2 : 0 ≤ (IntKind.u64.wrap v) % n := Int.emod_nonneg _ (by omega)
  have h3 : (IntKind.u64.wrap v) % n < n := Int.emod_lt_of_pos _ (by omega)
  have e := (modOf_spec v n hn hn2).1
  rw [h1] at e ⊢
  rw [IntWalk.wrap64_in _ (by omega)] at e
  rw [IntWalk.i64_in _ (by omega), e]
theorem news3' (K : IntKind) (t : TypeId) (w : World) (x y z : Int) (j : Nat) (u : Value) (h : [Value.int K x, .int K y, .int K z][j]? = some u) :
    ((w.alloc (Obj.cells #[.int K x, .int K y, .int K z] t)).drew).cell? (Addr.add ⟨w.heap.size, 0, none⟩ j) = some u := news3 K t w x y z j u h
/-- The trip points that Trips makes. -/
def tpF (g : Nat → St) (i : Nat) : St := ⟨1 + modOf (g i).a 3, (modOf (g i).b 101 : Int) - 50, modOf (g i).c 20⟩
def tpN (m : Nat) : Nat := min m 6
theorem info62 : (Try.prog.info? 77).map (fun i => (i.zero, i.size, i.bytes)) = some (some (.agg #[.int .u64 0, .int .u64 0, .int .u64 0]), 3, 24) := by kernel_rfl
/-- The actors that Actors makes. -/
def acF (g : Nat → St) (i : Nat) : St := ⟨(g i).a % 40, (g i).b % 10, (g i).b % 10 + (g i).c % 30⟩
def acN (m : Nat) : Nat := min m 8
/-- What a maker of triples leaves. -/
def MkP (K : IntKind) (t : TypeId) (N : Nat → Nat) (F : Nat → St) (w : World) (m : Nat) (e : Ending) (w' : World) : Prop :=
  ∃ A c, e = .returned (.slice A (N m) c) ∧ w'.ownsRow w.heap.size t 3 (.slice A (N m) c) (N m) (newsL K F (N m)) ∧ Below w.heap.size w w'
theorem own_sl {w : World} {base t size n : Nat} {v : Value} {xs : List Value} (h : w.ownsRow base t size v n xs) : ∃ A c, v = .slice A n c := by
  rcases h.2 with ⟨rfl, rfl⟩ | ⟨g, cap, cur, rfl, _⟩
  · exact ⟨none, 0, rfl⟩
  · exact ⟨_, cap, rfl⟩

set_option maxRecDepth 100000 in
set_option maxHeartbeats 4000000 in
theorem actors_any (A : Option Addr) (m c : Nat) (g : Nat → St) (w : World) (h : SlS .u64 w A m g) : Calls Try.prog 17 #[.slice A m c] w (MkP .u64 77 acN (acF g) w m) := by
  have hl := h.len
  have HS := Lib.hid h
  obtain ⟨i0, hi, hzz⟩ := Option.map_eq_some_iff.1 info62
  simp only [Prod.mk.injEq] at hzz
  obtain ⟨hz, hs, hb⟩ := hzz
  have HI := Lib.hid (And.intro hi (And.intro hz (And.intro hs hb)))
  have HNN : Hid (acN m = min m 8) := rfl
  clear h hi hz hs hb
  go_enter Try.func17, Try.ntmps17
  go_wp2_with fail
  go_loopg [4, 3] 9 (fun gk vi vo wr => ∃ k : Nat, k + gk = 9 ∧ k ≤ acN m ∧ vi = .int .i64 k ∧ wr.ownsRow w.heap.size 77 3 vo k (newsL .u64 (acF g) k) ∧ Below w.heap.size w wr)
  case atStart => exact ⟨0, by omega, by omega, rfl, World.ownsRow_nil _ _ _ _, Below.refl _ _⟩
  case round =>
    obtain ⟨k, hk, hkn, rfl, OW, HB⟩ := hrel
    by_cases hlt : k < m ∧ k < 8
    · obtain ⟨hkm, hk6⟩ := hlt
      obtain ⟨g', rfl⟩ : ∃ g', gk = g' + 1 := ⟨gk - 1, by omega⟩
      rcases HS.out.row with h0 | ⟨b, off, rfl, hb, hc⟩
      · omega
      obtain ⟨c0, c1, c2⟩ := hc k hkm
      rw [← HB.cell hb] at c0 c1 c2
      have hwf := HS.out.wf k hkm
      have uy := wf_u64 hwf.2.1
      have NS : Hid (newsL .u64 (acF g) (k + 1) = newsL .u64 (acF g) k ++ [.int .u64 ((g k).a % 40), .int .u64 ((g k).b % 10), .int .u64 ((g k).b % 10 + (g k).c % 30)]) := newsL_succ _ _ _
      clear hc
      generalize g k = s at *
      obtain ⟨x0, y0, z0⟩ := s
      simp only at *
      have hbw : b < wr.heap.size := by have := HB.size; omega
      go_upto_region 6 with fail
      have u1 := wf_u64 hwf.1
      have u2 := wf_u64 hwf.2.1
      have u3' := wf_u64 hwf.2.2
      have w1 : x0.tmod 40 = x0 % 40 := Int.tmod_eq_emod_of_nonneg u1.1
      have w2 : z0.tmod 30 = z0 % 30 := Int.tmod_eq_emod_of_nonneg u3'.1
      have w3 : IntKind.u64.wrap (y0 % 10 + z0 % 30) = y0 % 10 + z0 % 30 := by rw [IntKind.wrap_u64]; omega
      have HB0 := Lib.hid HB
      have hsz : Hid (w.heap.size ≤ wr.heap.size) := HB.size
      have KP : Hid (∀ w' : World, Below wr.drew.heap.size wr.drew w' → (w'.cell? ⟨b, off + k * 3, none⟩ = some (.int .u64 x0) ∧ w'.cell? ⟨b, off + k * 3 + 1, none⟩ = some (.int .u64 y0) ∧ w'.cell? ⟨b, off + k * 3 + 2, none⟩ = some (.int .u64 z0))) := fun w' hb' => by
        have hb' : Below wr.heap.size wr w' := (Below.refl _ wr).drew.trans hb'
        exact ⟨(hb'.cell hbw).trans c0, (hb'.cell hbw).trans c1, (hb'.cell hbw).trans c2⟩
      have BX : Below wr.heap.size wr ((wr.alloc (Obj.cells #[.int .u64 (x0 % 40), .int .u64 (y0 % 10), .int .u64 (y0 % 10 + z0 % 30)] 77)).drew) := (bal (Below.refl _ _) _).drew
      have KG : Hid (∀ w9 : World, ((wr.alloc (Obj.cells #[.int .u64 (x0 % 40), .int .u64 (y0 % 10), .int .u64 (y0 % 10 + z0 % 30)] 77)).drew).grownBy w9 u3.ownBlock → (w9.cell? ⟨b, off + k * 3, none⟩ = some (.int .u64 x0) ∧ w9.cell? ⟨b, off + k * 3 + 1, none⟩ = some (.int .u64 y0) ∧ w9.cell? ⟨b, off + k * 3 + 2, none⟩ = some (.int .u64 z0))) := fun w9 hg => by
        have hne : u3.ownBlock ≠ some b := fun h => by have := (OW.lt b h).1; omega
        have e : ∀ o, w9.cell? ⟨b, o, none⟩ = wr.cell? ⟨b, o, none⟩ := fun o => (World.cell?_of_block (hg.block b (Nat.lt_of_lt_of_le hbw BX.size) (fun h => hne h.symm))).trans (BX.cell hbw)
        exact ⟨(e _).trans c0, (e _).trans c1, (e _).trans c2⟩
      have HOW : Hid (((wr.alloc (Obj.cells #[.int .u64 (x0 % 40), .int .u64 (y0 % 10), .int .u64 (y0 % 10 + z0 % 30)] 77)).drew).ownsRow w.heap.size 77 3 u3 k (newsL .u64 (acF g) k)) := own_below OW BX
      have HBG : Hid (∀ w9 : World, ((wr.alloc (Obj.cells #[.int .u64 (x0 % 40), .int .u64 (y0 % 10), .int .u64 (y0 % 10 + z0 % 30)] 77)).drew).grownBy w9 u3.ownBlock → Below w.heap.size w w9) := fun w9 hg => (bel2 HB BX).grown hg (by have := BX.size; have := hsz.out; omega) (fun j hj => (OW.lt j hj).1)
      have HNW := Lib.hid (news3' .u64 77 wr (x0 % 40) (y0 % 10) (y0 % 10 + z0 % 30))
      have HON := Lib.hid (one3 .u64 (x0 % 40) (y0 % 10) (y0 % 10 + z0 % 30))
      have hc3 : k + 1 ≤ maxLen := by unfold maxLen; omega
      have hc4 : (k + 1) * 24 ≤ 140737488355328 := by omega
      have hc5 : w.heap.size ≤ ((wr.alloc (Obj.cells #[.int .u64 (x0 % 40), .int .u64 (y0 % 10), .int .u64 (y0 % 10 + z0 % 30)] 77)).drew).heap.size := by have := hsz.out; simp; omega
      clear HB OW
      go_region_held3 (fun w' => w'.cell? ⟨b, off + k * 3, none⟩ = some (.int .u64 x0) ∧ w'.cell? ⟨b, off + k * 3 + 1, none⟩ = some (.int .u64 y0) ∧ w'.cell? ⟨b, off + k * 3 + 2, none⟩ = some (.int .u64 z0))
        (first | exact KG.out _ hgrow | exact KP.out _ (Below.refl _ _) | exact KP.out _ (bal (Below.refl _ _) _) | go_keep)
        ((first | (refine step_append_lies _ (by rfl) _ _ _ (by rfl) w.heap.size 77 i0 _ 3 24 Try.underlying53 HI.out.1 HI.out.2.1 HI.out.2.2.1 HI.out.2.2.2 rfl (by decide) u3 k (newsL .u64 (acF g) k) (by rfl) HOW.out ⟨wr.heap.size, 0, none⟩ 1 1 [.int .u64 (x0 % 40), .int .u64 (y0 % 10), .int .u64 (y0 % 10 + z0 % 30)] (by rfl) rfl HNW.out HON.out (by omega) hc3 hc4 hc5 (wr.heap.size + 1) (by simp) ?_; intro gg cap w9 hown hgrow hat hlt9)))
      all_goals
        rw [← NS.out] at hown
        have OWN := Lib.hid hown
        have BW := Lib.hid (HBG.out w9 hgrow)
        clear hown hgrow hat hlt9 KP KG HOW HBG HNW HON BX c0 c1 c2
        go_wp2
        go_roundg g'
        case measure => omega
        case rel => exact ⟨k + 1, by omega, by have := HNN.out; omega, rfl, OWN.out, BW.out⟩
    · have hkn2 : k = acN m := by have := HNN.out; omega
      obtain ⟨A', c', rfl⟩ := own_sl OW
      have F : Hid (MkP .u64 77 acN (acF g) w m (.returned (.slice A' k c')) wr) := by
        rw [hkn2] at OW ⊢
        exact ⟨A', c', rfl, OW, HB⟩
      clear OW HB hkn2
      have hor : ¬ k < m ∨ (k < m ∧ k = 8) := by have := HNN.out; omega
      rcases hor with hor | ⟨hor, rfl⟩
      all_goals
        go_wp2
        go_ret
        exact F.out
end Go.Proofs.Ytbblachhijpgeaa
