/- startCommand's query with a queue. -/
import Derived.Test.YtdmbmjnobncgjaaCtl
namespace Go.Proofs.Ytdmbmjnobncgjaa
open Go.RowKit

theorem qx_tail {B : Nat} {X : Nat → Prop} {w : World} {b off c : Nat} {q : Int} {r : List Int} (hX : ∀ b, X b → b < w.heap.size) (hB : B ≤ b) (hlt : b < w.heap.size) (hx : ¬ X b) (hc : ∀ i, i < (q :: r).length → w.cell? ⟨b, off + i, none⟩ = some (.int .u8 ((q :: r).getD i 0)))
    (hr : ∀ i, i < c → (w.cell? ⟨b, off + i, none⟩).isSome = true ∧ w.frozen? ⟨b, off + i, none⟩ = false) : QX B X w (some ⟨b, off + 1, none⟩) r (c - 1) :=
  ⟨hX, .inr ⟨b, off + 1, rfl, hB, hlt, hx, fun i hi => by
    have := hc (i + 1) (by simp; omega)
    rw [show off + 1 + i = off + (i + 1) by omega, this]
    simp, fun i hi => by rw [show off + 1 + i = off + (i + 1) by omega]; exact hr (i + 1) (by omega)⟩⟩
theorem start_q (w : World) (L : Nat) (s : EcS) (q : Int) (r : List Int) (h : Ec w L s) (hq : s.ql = q :: r) : Calls Try.prog 45 #[.pointer (some ⟨L, 0, none⟩), .int .u8 132] w (EP w L { s with cd := 0, ad := false, ou := q, un := true, ql := r } (.tuple #[])) := by
  have hb := h.q
  rw [hq] at hb
  obtain ⟨hX, hb⟩ := hb
  rcases hb with ⟨hb, _⟩ | ⟨b, off, hA, hB, hlt, hx, hc, hr⟩
  · cases hb
  have hqn := h.qn
  rw [hq] at hqn
  have hqn : r.length + 1 ≤ s.qc := hqn
  have hu : U8 q := h.ql.2 q (by rw [hq]; exact .head _)
  have hql := h.ql.1
  rw [hq] at hql
  have hql : r.length + 1 ≤ 1000000 := hql
  have c1 := er_cd h.row
  have c2 := er_ad h.row
  have c3 := er_q h.row
  rw [hq, hA] at c3
  have c3 : w.cell? ⟨L, 264, none⟩ = some (.slice (some ⟨b, off, none⟩) (r.length + 1) s.qc) := c3
  have c4 : w.cell? ⟨b, off, none⟩ = some (.int .u8 q) := hc 0 (by simp)
  have z1 := h.row.frozen 265
  have z2 := h.row.frozen 266
  have z3 := h.row.frozen 264
  have hL := h.row.lt
  have hne : b ≠ L := by omega
  have H := Lib.hid h
  generalize hcc : s.qc = c at *
  generalize hn : r.length = n at *
  have P : Hid (∀ A cc, QX (L + 1) s.xq w A r cc → n ≤ cc → Ec ((((w.setCell ⟨L, 265, none⟩ (.int .u8 0)).setCell ⟨L, 266, none⟩ (.bool false)).setCell ⟨L, 264, none⟩ (.slice A n cc))) L { s with cd := 0, ad := false, ql := r, qa := A, qc := cc }) := fun A cc hI hc => by
    have h1 := ew_start H.out 0 (by unfold U8; omega)
    have g0 := g_then (g_store w L 265 (.int .u8 0)) (g_store _ L 266 (.bool false))
    have g := g_store ((w.setCell ⟨L, 265, none⟩ (.int .u8 0)).setCell ⟨L, 266, none⟩ (.bool false)) L 264 (.slice A n cc)
    exact ⟨ew_q h1.row A r n cc hn.symm, (hI.own g0).own g, h1.dl, h1.ck, h1.du, h1.reg, h1.vl, h1.ou, h1.cd, h1.aa, ⟨by rw [hn]; omega, fun x hx => H.out.ql.2 x (by rw [hq]; exact .tail _ hx)⟩, by rw [hn]; exact hc⟩
  have HX := Lib.hid hX
  have I := Lib.hid (qx_tail hX hB hlt hx hc hr)
  have hcN := Lib.hid hcc
  clear h hq hc hA hcc hr hX hx
  by_cases hc1 : c = 1
  · subst hc1
    have hn0 : n = 0 := by omega
    subst hn0
    have HZ : Hid (∀ A, QX (L + 1) s.xq w A r 0) := fun A => ⟨HX.out, .inl ⟨List.length_eq_zero_iff.1 hn, rfl⟩⟩
    go_enter Try.func45, Try.ntmps45
    go_wp2_with fail
    refine (put_q _ L { s with cd := 0, ad := false, ql := r } q ⟨_, _, P.out _ _ (HZ.out _) (Nat.le_refl 0)⟩ hu).mono ?_
    rintro e w1 ⟨rfl, k1, k2⟩
    have k1 := Lib.hid k1
    clear P H I HX HZ
    go_wp2
    go_end0
    exact ⟨rfl, k1.out, g_then (g_then (g_then (g_store w L 265 _) (g_store _ L 266 _)) (g_store _ L 264 _)) k2⟩
  · go_enter Try.func45, Try.ntmps45
    go_wp2_with fail
    refine (put_q _ L { s with cd := 0, ad := false, ql := r } q ⟨_, _, P.out _ _ I.out (by omega)⟩ hu).mono ?_
    rintro e w1 ⟨rfl, k1, k2⟩
    have k1 := Lib.hid k1
    clear P H I HX
    go_wp2
    go_end0
    exact ⟨rfl, k1.out, g_then (g_then (g_then (g_store w L 265 _) (g_store _ L 266 _)) (g_store _ L 264 _)) k2⟩
theorem u8_nat {v : Int} (h : U8 v) : ∃ k : Nat, v = k ∧ k < 256 := ⟨v.toNat, by obtain ⟨a, _⟩ := h; omega, by obtain ⟨a, _⟩ := h; omega⟩
theorem take_r (w : World) (L : Nat) (s : EcS) (v : Nat) (h : Ec w L s) (hv : v < 256) (hc : s.cd = 128) : Calls Try.prog 46 #[.pointer (some ⟨L, 0, none⟩), .int .u8 v] w (EP w L { s with ou := s.reg v, un := true, cd := 0 } (.tuple #[])) := by
  have c1 := er_cd h.row
  rw [hc] at c1
  have c2 := er_reg h.row v hv
  have hL := h.row.lt
  have H := Lib.hid h
  have P := put_any w L s (s.reg v) h (h.reg v hv)
  clear h
  go_enter Try.func46, Try.ntmps46
  go_wp2_with fail
  refine P.mono ?_
  rintro e w1 ⟨rfl, k1, k2⟩
  have d1 := er_cd k1.row
  have z1 := k1.row.frozen 265
  have hL1 := k1.row.lt
  have K := Lib.hid k1
  clear P H k1 c1 c2
  go_wp2
  go_end0
  have k1 := K.out
  have g := g_store w1 L 265 (.int .u8 0)
  exact ⟨rfl, .of ⟨ew_cd k1.row 0, k1.q.own g, k1.dl, k1.ck, k1.du, k1.reg, k1.vl, k1.ou, (show U8 0 by unfold U8; omega), k1.aa, k1.ql, k1.qn⟩, g_then k2 g⟩
theorem take_a (w : World) (L : Nat) (s : EcS) (v : Int) (h : Ec w L s) (hv : U8 v) (hc : s.cd = 129) (ha : s.ad = false) : Calls Try.prog 46 #[.pointer (some ⟨L, 0, none⟩), .int .u8 v] w (EP w L { s with aa := v, ad := true } (.tuple #[])) := by
  have c1 := er_cd h.row
  rw [hc] at c1
  have c2 := er_ad h.row
  rw [ha] at c2
  have c3 := er_aa h.row
  have z1 := h.row.frozen 266
  have z2 := h.row.frozen 267
  have hL := h.row.lt
  have H := Lib.hid h
  clear h
  go_enter Try.func46, Try.ntmps46
  go_wp2
  go_end0
  have h := H.out
  have g := g_then (g_store w L 267 (.int .u8 v)) (g_store _ L 266 (.bool true))
  exact ⟨rfl, .of ⟨ew_ad (ew_aa h.row v) true, h.q.own g, h.dl, h.ck, h.du, h.reg, h.vl, h.ou, h.cd, hv, h.ql, h.qn⟩, g⟩
theorem take_n (w : World) (L : Nat) (s : EcS) (v : Int) (h : Ec w L s) (hc : s.cd ≠ 128 ∧ s.cd ≠ 129) : Calls Try.prog 46 #[.pointer (some ⟨L, 0, none⟩), .int .u8 v] w (EP w L s (.tuple #[])) := by
  have c1 := er_cd h.row
  have c2 := er_ad h.row
  have e1 : (s.cd == 128) = false := by simp [hc.1]
  have e2 : (s.cd == 129) = false := by simp [hc.2]
  have hL := h.row.lt
  have H := Lib.hid h
  clear h hc
  go_enter Try.func46, Try.ntmps46
  go_wp2
  go_end0
  exact ⟨rfl, .of H.out, g_of_below (Below.refl _ _) _⟩
set_option maxRecDepth 100000 in
set_option maxHeartbeats 2000000 in
theorem take_w (w : World) (L : Nat) (s : EcS) (v : Int) (a : Nat) (h : Ec w L s) (hv : U8 v) (hc : s.cd = 129) (ha : s.ad = true) (hk : s.aa = a) (hk2 : a < 256) : Calls Try.prog 46 #[.pointer (some ⟨L, 0, none⟩), .int .u8 v] w (EP w L { s with reg := updR s.reg a v, cd := 0 } (.tuple #[])) := by
  have c1 := er_cd h.row
  rw [hc] at c1
  have c2 := er_ad h.row
  rw [ha] at c2
  have c3 := er_aa h.row
  rw [hk] at c3
  have c4 := er_reg h.row a hk2
  have hk3 : (a : Int) < 256 := by omega
  have z1 := h.row.frozen 265
  have z2 := h.row.frozen (2 + a)
  have hL := h.row.lt
  have H := Lib.hid h
  clear h
  go_enter Try.func46, Try.ntmps46
  go_wp2_with fail
  go_still_tail 9, (by kernel_rfl)
  go_wp2
  go_end0
  have h := H.out
  have g := g_then (g_store w L (2 + a) (.int .u8 v)) (g_store _ L 265 (.int .u8 0))
  refine ⟨rfl, .of (Ec.drew ⟨ew_cd (ew_reg h.row a hk2 v) 0, h.q.own g, h.dl, h.ck, h.du, ?_, h.vl, h.ou, (show U8 0 by unfold U8; omega), h.aa, h.ql, h.qn⟩), g_drew g⟩
  intro i hi
  show U8 (if i = a then v else s.reg i)
  split
  · exact hv
  · exact h.reg i hi
/-- startCommand and takeData on the state. -/
def sStart (s : EcS) (v : Int) : EcS :=
  if v = 128 ∨ v = 129 then { s with cd := v, ad := false }
  else if v = 132 then (match s.ql with
    | [] => { s with cd := 0, ad := false, ou := 0, un := true }
    | q :: r => { s with cd := 0, ad := false, ou := q, un := true, ql := r })
  else { s with cd := 0, ad := false }
def sTake (s : EcS) (v : Int) : EcS :=
  if s.cd = 128 then { s with ou := s.reg v.toNat, un := true, cd := 0 }
  else if s.cd = 129 then (if s.ad = true then { s with reg := updR s.reg s.aa.toNat v, cd := 0 } else { s with aa := v, ad := true })
  else s
theorem EP.cg {w : World} {L : Nat} {s t : EcS} {v : Value} {e : Ending} {w' : World} (k : EP w L s v e w') (he : ∀ A c, { s with qa := A, qc := c } = { t with qa := A, qc := c }) : EP w L t v e w' := by
  obtain ⟨h1, ⟨A, c, h2⟩, h3⟩ := k
  rw [he A c] at h2
  exact ⟨h1, ⟨A, c, h2⟩, h3⟩
theorem start_any (w : World) (L : Nat) (s : EcS) (v : Int) (h : EcQ w L s) : Calls Try.prog 45 #[.pointer (some ⟨L, 0, none⟩), .int .u8 v] w (EP w L (sStart s v) (.tuple #[])) := by
  obtain ⟨A, c, h⟩ := h
  unfold sStart
  by_cases h1 : v = 128 ∨ v = 129
  · rw [if_pos h1]
    exact (start_c w L { s with qa := A, qc := c } v h h1).mono fun e w' k => k.cg (fun _ _ => rfl)
  rw [if_neg h1]
  by_cases h2 : v = 132
  · subst h2
    rw [if_pos rfl]
    cases hq : s.ql with
    | nil => exact (start_e w L { s with qa := A, qc := c } h hq).mono fun e w' k => k.cg (fun _ _ => by simp only [hq])
    | cons q r => exact (start_q w L { s with qa := A, qc := c } q r h hq).mono fun e w' k => k.cg (fun _ _ => rfl)
  · rw [if_neg h2]
    exact (start_o w L { s with qa := A, qc := c } v h ⟨fun e => h1 (.inl e), fun e => h1 (.inr e), h2⟩).mono fun e w' k => k.cg (fun _ _ => rfl)
theorem take_any (w : World) (L : Nat) (s : EcS) (v : Int) (h : EcQ w L s) (hv : U8 v) : Calls Try.prog 46 #[.pointer (some ⟨L, 0, none⟩), .int .u8 v] w (EP w L (sTake s v) (.tuple #[])) := by
  obtain ⟨A, c, h⟩ := h
  unfold sTake
  by_cases h1 : s.cd = 128
  · rw [if_pos h1]
    obtain ⟨k, rfl, hk⟩ := u8_nat hv
    exact (take_r w L { s with qa := A, qc := c } k h hk h1).mono fun e w' k => k.cg (fun _ _ => rfl)
  rw [if_neg h1]
  by_cases h2 : s.cd = 129
  · rw [if_pos h2]
    by_cases h3 : s.ad = true
    · rw [if_pos h3]
      obtain ⟨k0, hk, hk2⟩ := u8_nat h.aa
      have hk : s.aa = k0 := hk
      have :=  (take_w w L { s with qa := A, qc := c } v k0 h hv h2 h3 hk hk2).mono fun e w' k => k.cg (t := { s with reg := updR s.reg (k0 : Int).toNat v, cd := 0 }) (fun _ _ => rfl)
      rw [show updR s.reg s.aa.toNat v = updR s.reg (k0 : Int).toNat v by rw [hk]]
      exact this
    · rw [if_neg h3]
      exact (take_a w L { s with qa := A, qc := c } v h hv h2 (by simpa using h3)).mono fun e w' k => k.cg (fun _ _ => rfl)
  · rw [if_neg h2]
    exact (take_n w L { s with qa := A, qc := c } v h ⟨h1, h2⟩).mono fun e w' k => k.cg (fun _ _ => rfl)
end Go.Proofs.Ytdmbmjnobncgjaa
