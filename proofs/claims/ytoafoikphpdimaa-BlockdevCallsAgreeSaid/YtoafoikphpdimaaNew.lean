/- New. -/
import Derived.Test.YtoafoikphpdimaaRpt
namespace Go.Proofs.Ytoafoikphpdimaa
open Go.ChangeShapes Go.WideShapes Go.ChangeAt Go.RowKit Go.Deep Go.Joins

def zs : ByteArray := ⟨(List.replicate 64 (0 : UInt8)).toArray⟩
theorem zs_rep : (⟨(Lib.repeatL (⟨#[0]⟩ : ByteArray).data.toList 64).toArray⟩ : ByteArray) = zs := by kernel_rfl
theorem zs_size : zs.size = 64 := by kernel_rfl
def s0 (n L X : Nat) : DkS := ⟨n, List.replicate n zs, [], false, false, 0, fun _ => false, 0, L, X⟩
def NewP (w : World) (n : Int) (e : Ending) (w' : World) : Prop :=
  (∃ m L X : Nat, n = m ∧ 1 ≤ m ∧ m ≤ 4096 ∧ e = .returned (.tuple #[.pointer (some ⟨L, 0, none⟩), .int .i64 0]) ∧ ∃ v Ka kc, Dw w (fun _ => False) w' (s0 m L X) v Ka kc) ∨
  (¬ (1 ≤ n ∧ n ≤ 4096) ∧ e = .returned (.tuple #[.pointer none, .int .i64 1]) ∧ w = w')
theorem dk_new {w : World} {X n : Nat} (h : w.ownsRow 0 9 1 (.slice (some ⟨X, 0, none⟩) n n) n ((List.replicate n zs).map .string)) (hn : 1 ≤ n ∧ n ≤ 4096) :
    Dk (fun b => b = X ∨ b = w.heap.size) (w.alloc (.cells #[.slice (some ⟨X, 0, none⟩) n n, .slice none 0 0, .bool false, .bool false, .int .i64 0, .slice none 0 0] 62)) (s0 n w.heap.size X) (.slice none 0 0) none 0 := by
  have hX := (h.lt X rfl).2
  exact ⟨heap_alloc_new w _, own_chg h (Chg.alloc (fun _ => False) _ _) (fun _ _ x => x), World.ownsRow_nil _ _ _ _, bs_nil _ _, .inr rfl, .inl rfl, (fun k hk => by cases hk), (fun a e => by cases e), (fun e => by have e : X = w.heap.size := e; omega), (fun k hk => by cases hk), (fun a e => by cases e), hn, List.length_replicate, (fun c hc => by cases hc), by show (0 : Int) ≤ 0 ∧ (0 : Int) ≤ _; omega⟩
set_option maxRecDepth 20000 in
set_option maxHeartbeats 2000000 in
theorem new_any (n : Int) (w : World) : Calls Try.prog 12 #[.int .i64 n] w (NewP w n) := by
  by_cases h1 : n < 1
  · have G : Hid (NewP w n (.returned (.tuple #[.pointer none, .int .i64 1])) w) := .inr ⟨by omega, rfl, rfl⟩
    go_enter Try.func12, Try.ntmps12
    go_wp2
    go_ret2
    exact G.out
  by_cases h2 : 4096 < n
  · have G : Hid (NewP w n (.returned (.tuple #[.pointer none, .int .i64 1])) w) := .inr ⟨by omega, rfl, rfl⟩
    go_enter Try.func12, Try.ntmps12
    go_wp2
    go_ret2
    exact G.out
  obtain ⟨m, rfl⟩ := Int.eq_ofNat_of_zero_le (show 0 ≤ n by omega)
  have P1 := Try.strings_Repeat ⟨#[0]⟩ 64 w (by omega) (by decide)
  rw [zs_rep] at P1
  have hm : 1 ≤ m ∧ m ≤ 4096 := by omega
  have G : Hid (∀ w1 w2 w3 X, Below w.heap.size w w1 → w1.heap.size + 1 ≤ X → Below (w1.heap.size + 1) (w1.alloc (.cells #[.string zs] 9)) w2 → w2.ownsRow 0 9 1 (.slice (some ⟨X, 0, none⟩) m m) m ((List.replicate m zs).map .string) → w3 = w2.alloc (.cells #[.slice (some ⟨X, 0, none⟩) m m, .slice none 0 0, .bool false, .bool false, .int .i64 0, .slice none 0 0] 62) →
      NewP w m (.returned (.tuple #[.pointer (some ⟨w2.heap.size, 0, none⟩), .int .i64 0])) w3) := fun w1 w2 w3 X hb1 hX hb2 ho e => by
    subst e
    have s1 := hb1.size
    have s2 := hb2.size
    simp at s2
    have b3 : Below w.heap.size w w2 := (bal hb1 _).trans (hb2.mono (by omega))
    refine .inl ⟨m, w2.heap.size, X, rfl, hm.1, hm.2, rfl, _, _, _, _, fun b hb => ?_, dk_new ho hm, Chg.of_below (bal b3 _) _⟩
    rcases hb with rfl | rfl
    · right; omega
    · right; omega
  have RP := fun (W : World) (b : Nat) (h : W.cell? ⟨b, 0, none⟩ = some (.string zs)) => rep_any h hm
  have RP := Lib.hid RP
  go_enter Try.func12, Try.ntmps12
  go_upto_region 4 with (go_at_call 29; refine P1.mono ?_; rintro e w1 ⟨rfl, hb1⟩)
  have c1 : (w1.alloc (.cells #[.string zs] 9)).cell? ⟨w1.heap.size, 0, none⟩ = some (.string zs) := new_c _ _ _ 0
  have P2 := RP.out _ _ c1
  clear P1 RP
  go_wp2_with fail
  refine P2.mono ?_
  rintro e w2 ⟨X, rfl, hX, ho, hb2⟩
  have F := Lib.hid (G.out w1 w2 _ X hb1 (by simpa using hX) (by simpa using hb2) ho rfl)
  clear P2 G hb1 hX ho hb2 c1
  go_wp2
  go_ret2
  exact F.out
end Go.Proofs.Ytoafoikphpdimaa
