/- perf.Transition: the operations that lead from one point to another. -/
import Derived.Test.YtfmaadfccnjnjaaFnd
namespace Go.Proofs.Ytfmaadfccnjnjaa
open Go.RowKit

/-- One operation. -/
structure PO where
  v : Bool
  x : Int
structure PlS (w : World) (A : Option Addr) (n : Nat) (g : Nat → PO) : Prop where
  len : n ≤ 9223372036854775807
  row : n = 0 ∨ ∃ b off, A = some ⟨b, off, none⟩ ∧ b < w.heap.size ∧ ∀ i, i < n → w.cell? ⟨b, off + i * 2, none⟩ = some (.bool (g i).v) ∧ w.cell? ⟨b, off + i * 2 + 1, none⟩ = some (.int .u64 (g i).x)
theorem PlS.below {w w' : World} {A : Option Addr} {n : Nat} {g : Nat → PO} {B : Nat} (h : PlS w A n g) (hb : Below B w w') (hB : w.heap.size ≤ B) : PlS w' A n g := by
  refine ⟨h.len, ?_⟩
  rcases h.row with h0 | ⟨b, off, hA, hlt, hc⟩
  · exact .inl h0
  · refine .inr ⟨b, off, hA, Nat.lt_of_lt_of_le hlt hb.size, fun i hi => ?_⟩
    obtain ⟨c0, c1⟩ := hc i hi
    rw [← hb.cell (by show b < B; omega)] at c0 c1
    exact ⟨c0, c1⟩
def inT (n : Nat) (i : Int) : Bool := decide (0 ≤ i) && decide (i < n)
theorem isp_any (A : Option Addr) (n c : Nat) (i : Int) (w : World) : Calls Try.prog 33 #[.slice A n c, .int .i64 i] w fun e w' => e = .returned (.bool (inT n i)) ∧ w = w' := by
  by_cases h0 : 0 ≤ i
  · by_cases h1 : i < n
    · have E : Hid (inT n i = true) := by show _ = _; simp [inT, h0, h1]
      go_enter Try.func33, Try.ntmps33
      go_wp2
      go_ret
      exact ⟨by rw [E.out]; rfl, rfl⟩
    · have E : Hid (inT n i = false) := by show _ = _; simp [inT]; omega
      go_enter Try.func33, Try.ntmps33
      go_wp2
      go_ret
      exact ⟨by rw [E.out]; rfl, rfl⟩
  · have E : Hid (inT n i = false) := by show _ = _; simp [inT]; omega
    go_enter Try.func33, Try.ntmps33
    go_wp2
    go_ret
    exact ⟨by rw [E.out]; rfl, rfl⟩
/-- The operations of a transition. -/
def trV (a b : Nat) (va vb lb : Int) : List PO :=
  if a = b then [] else if va = vb then [⟨false, lb⟩] else if a < b then [⟨true, vb⟩, ⟨false, lb⟩] else [⟨false, lb⟩, ⟨true, vb⟩]
def trL (f : Nat → St) (a b : Nat) : List PO := trV a b (f a).r (f b).r (f b).l
def atL (l : List PO) (i : Nat) : PO := l.getD i ⟨false, 0⟩
def trOk (n : Nat) (f : Nat → St) (a b : Int) : Bool := vld n f && inT n a && inT n b
def trR (n : Nat) (f : Nat → St) (a b : Int) : List PO := if trOk n f a b then trL f a.toNat b.toNat else []
def trE (n : Nat) (f : Nat → St) (a b : Int) : Int := if trOk n f a b then 0 else 1
def TraPost (w : World) (n : Nat) (f : Nat → St) (a b : Int) (e : Ending) (w' : World) : Prop :=
  ∃ A c, e = .returned (.tuple #[.slice A (trR n f a b).length c, .int .i64 (trE n f a b)]) ∧ PlS w' A (trR n f a b).length (atL (trR n f a b)) ∧ Below w.heap.size w w'
theorem tra_no {w w' : World} {n : Nat} {f : Nat → St} {a b : Int} (h : trOk n f a b = false) (hB : Below w.heap.size w w') :
    TraPost w n f a b (.returned (.tuple #[.slice none 0 0, .int .i64 1])) w' := by
  have e1 : trR n f a b = [] := by unfold trR; rw [h]; rfl
  have e2 : trE n f a b = 1 := by unfold trE; rw [h]; rfl
  unfold TraPost
  rw [e1, e2]
  exact ⟨none, 0, rfl, ⟨by simp, .inl rfl⟩, hB⟩
theorem tra_yes {w w' : World} {n : Nat} {f : Nat → St} {a b : Nat} {l : List PO} {A : Option Addr} {c : Nat} (h : trOk n f a b = true) (hl : trL f a b = l) (hp : PlS w' A l.length (atL l)) (hB : Below w.heap.size w w') :
    TraPost w n f a b (.returned (.tuple #[.slice A l.length c, .int .i64 0])) w' := by
  have e1 : trR n f a b = l := by unfold trR; rw [h, ← hl]; rfl
  have e2 : trE n f a b = 0 := by unfold trE; rw [h]; rfl
  unfold TraPost
  rw [e1, e2]
  exact ⟨A, c, rfl, hp, hB⟩
theorem tra_bad (A : Option Addr) (n c : Nat) (f : Nat → St) (a b : Int) (w : World) (h : SlS w A n f) (ho : trOk n f a b = false) :
    Calls Try.prog 19 #[.slice A n c, .int .i64 a, .int .i64 b] w (TraPost w n f a b) := by
  have C := chk_any A n c f w h
  have HO := Lib.hid ho
  cases hv : vld n f
  · have HV := Lib.hid hv; clear hv ho
    go_enter Try.func19, Try.ntmps19
    go_wp2_with fail
    refine C.mono ?_
    rintro e w' ⟨rfl, hb⟩
    rw [HV.out]
    go_wp2
    go_ret2
    exact tra_no HO.out hb
  · have HV := Lib.hid hv
    cases ha : inT n a
    · have HA := Lib.hid ha; clear ha hv ho
      go_enter Try.func19, Try.ntmps19
      go_wp2_with fail
      refine C.mono ?_
      rintro e w' ⟨rfl, hb⟩
      rw [HV.out]
      go_wp2_with fail
      refine (isp_any _ _ _ _ _).mono ?_
      rintro e w2 ⟨rfl, rfl⟩
      rw [HA.out]
      go_wp2
      go_ret2
      exact tra_no HO.out hb
    · have hbb : inT n b = false := by
        unfold trOk at ho
        rw [hv, ha] at ho
        simpa using ho
      have HA := Lib.hid ha
      have HB := Lib.hid hbb
      clear ha hbb hv ho
      go_enter Try.func19, Try.ntmps19
      go_wp2_with fail
      refine C.mono ?_
      rintro e w' ⟨rfl, hb⟩
      rw [HV.out]
      go_wp2_with fail
      refine (isp_any _ _ _ _ _).mono ?_
      rintro e w2 ⟨rfl, rfl⟩
      rw [HA.out]
      go_wp2_with fail
      refine (isp_any _ _ _ _ _).mono ?_
      rintro e w2 ⟨rfl, rfl⟩
      rw [HB.out]
      go_wp2
      go_ret2
      exact tra_no HO.out hb
theorem bal {w a : World} (h : Below w.heap.size w a) (o : Obj) : Below w.heap.size w (a.alloc o) := h.alloc h.size o
theorem pl_one {w : World} {G : Nat} {y : PO} (hG : G < w.heap.size) (c0 : w.cell? ⟨G, 0, none⟩ = some (.bool y.v)) (c1 : w.cell? ⟨G, 1, none⟩ = some (.int .u64 y.x)) :
    PlS w (some ⟨G, 0, none⟩) 1 (atL [y]) := by
  refine ⟨by omega, .inr ⟨G, 0, rfl, hG, fun i hi => ?_⟩⟩
  match i, hi with
  | 0, _ => exact ⟨by simpa [atL] using c0, by simpa [atL] using c1⟩
theorem pl_two {w : World} {G : Nat} {y z : PO} (hG : G < w.heap.size) (c0 : w.cell? ⟨G, 0, none⟩ = some (.bool y.v)) (c1 : w.cell? ⟨G, 1, none⟩ = some (.int .u64 y.x))
    (c2 : w.cell? ⟨G, 2, none⟩ = some (.bool z.v)) (c3 : w.cell? ⟨G, 3, none⟩ = some (.int .u64 z.x)) : PlS w (some ⟨G, 0, none⟩) 2 (atL [y, z]) := by
  refine ⟨by omega, .inr ⟨G, 0, rfl, hG, fun i hi => ?_⟩⟩
  match i, hi with
  | 0, _ => exact ⟨by simpa [atL] using c0, by simpa [atL] using c1⟩
  | 1, _ => exact ⟨by simpa [atL] using c2, by simpa [atL] using c3⟩
theorem info40 : (Try.prog.info? 40).map (fun i => (i.zero, i.size, i.bytes)) = some (some (.agg #[.bool false, .int .u64 0]), 2, 16) := by kernel_rfl
set_option maxRecDepth 100000 in
set_option maxHeartbeats 2000000 in
theorem tra_good (bb off n c : Nat) (f : Nat → St) (a b : Nat) (w : World) (h : SlS w (some ⟨bb, off, none⟩) n f) (hb : bb < w.heap.size) (hc : Sts w bb off n f) (ho : trOk n f a b = true) :
    Calls Try.prog 19 #[.slice (some ⟨bb, off, none⟩) n c, .int .i64 a, .int .i64 b] w (TraPost w n f a b) := by
  have C := chk_any _ n c f w h
  have HO := Lib.hid ho
  simp only [trOk, Bool.and_eq_true] at ho
  obtain ⟨⟨hv, ha⟩, hbb⟩ := ho
  have hn := (vld_len hv).2
  have HV := Lib.hid hv
  have HA := Lib.hid ha
  have HBB := Lib.hid hbb
  have ha1 : a < n := by simp [inT] at ha; omega
  have hb1 : b < n := by simp [inT] at hbb; omega
  have a3 : (a : Int) < n := by omega
  have b3 : (b : Int) < n := by omega
  clear hv ha hbb
  obtain ⟨-, ca, -⟩ := hc a ha1
  obtain ⟨cb0, cb1, -⟩ := hc b hb1
  have TL : Hid (trL f a b = trV a b (f a).r (f b).r (f b).l) := rfl
  generalize (f a).r = va at *
  generalize (f b).r = vb at *
  generalize (f b).l = lb at *
  go_enter Try.func19, Try.ntmps19
  go_wp2_with fail
  refine C.mono ?_
  rintro e w1 ⟨rfl, hB1⟩
  rw [HV.out]
  rw [← hB1.cell hb] at ca cb0 cb1
  have hb2 : bb < w1.heap.size := by have := hB1.size; omega
  go_wp2_with fail
  refine (isp_any _ _ _ _ _).mono ?_
  rintro e w2 ⟨rfl, rfl⟩
  rw [HA.out]
  go_wp2_with fail
  refine (isp_any _ _ _ _ _).mono ?_
  rintro e w2 ⟨rfl, rfl⟩
  rw [HBB.out]
  by_cases hab : a = b
  · subst hab
    go_wp2
    go_ret2
    exact tra_yes (l := []) HO.out (by rw [TL.out]; simp [trV]) ⟨by simp, .inl rfl⟩ hB1
  have hab' : ((a : Int) == (b : Int)) = false := by simp; omega
  by_cases hr : va = vb
  · have hr' : (va != vb) = false := by simp [hr]
    have HR := Lib.hid hr; clear hr
    go_wp2_with fail
    go_quiet (fail)
    go_wp2
    go_ret2
    refine tra_yes (l := [⟨false, lb⟩]) HO.out (by rw [TL.out, HR.out]; simp [trV, hab]) (pl_one ?_ ?_ ?_) (below_drewN (hB1.alloc hB1.size _) _)
    · simp [go_sem]
    · simp [go_sem]
    · simp [go_sem]
  have hr' : (va != vb) = true := by simp [hr]
  have HR := Lib.hid hr; clear hr
  by_cases hlt : a < b
  · go_wp2_with fail
    go_quiet (fail)
    go_wp2_with fail
    have y0 : (((w1.alloc (Obj.cells #[.bool false, .int .u64 lb] 40)).drewN nq).alloc (Obj.cells #[.bool true, .int .u64 vb] 40)).cell? ⟨w1.heap.size, 0, none⟩ = some (.bool false) := by simp [go_sem]
    have y1 : (((w1.alloc (Obj.cells #[.bool false, .int .u64 lb] 40)).drewN nq).alloc (Obj.cells #[.bool true, .int .u64 vb] 40)).cell? ⟨w1.heap.size, 1, none⟩ = some (.int .u64 lb) := by simp [go_sem]
    have x0 : (((w1.alloc (Obj.cells #[.bool false, .int .u64 lb] 40)).drewN nq).alloc (Obj.cells #[.bool true, .int .u64 vb] 40)).cell? ⟨w1.heap.size + 1, 0, none⟩ = some (.bool true) := by simp [go_sem]
    have x1 : (((w1.alloc (Obj.cells #[.bool false, .int .u64 lb] 40)).drewN nq).alloc (Obj.cells #[.bool true, .int .u64 vb] 40)).cell? ⟨w1.heap.size + 1, 1, none⟩ = some (.int .u64 vb) := by simp [go_sem]
    have hBW := bal (below_drewN (bal hB1 (Obj.cells #[.bool false, .int .u64 lb] 40)) nq) (Obj.cells #[.bool true, .int .u64 vb] 40)
    generalize ((w1.alloc (Obj.cells #[.bool false, .int .u64 lb] 40)).drewN nq).alloc (Obj.cells #[.bool true, .int .u64 vb] 40) = W at *
    generalize w1.heap.size = L at *
    have hBW := Lib.hid hBW
    clear hB1 hb2 cb1 cb0 ca
    go_still_tail 4, (by kernel_rfl)
    go_wp2
    go_ret2
    refine tra_yes (l := [⟨true, vb⟩, ⟨false, lb⟩]) HO.out (by rw [TL.out]; simp [trV, hab, HR.out, hlt]) (pl_two ?_ ?_ ?_ ?_ ?_) (bal hBW.out _).drew
    · simp
    · simp [go_sem]
    · simp [go_sem]
    · simp [go_sem]
    · simp [go_sem]
  · go_wp2_with fail
    go_quiet (fail)
    go_wp2
    go_ret2
    refine tra_yes (l := [⟨false, lb⟩, ⟨true, vb⟩]) HO.out (by rw [TL.out]; simp [trV, hab, HR.out, hlt]) (pl_two ?_ ?_ ?_ ?_ ?_) (bal (bal (bal (below_drewN (bal hB1 _) _) _) _) _).drew
    · simp
    · simp [go_sem, Array.getElem?_append]
    · simp [go_sem, Array.getElem?_append]
    · simp [go_sem, Array.getElem?_append]
    · simp [go_sem, Array.getElem?_append]
theorem tra_any (A : Option Addr) (n c : Nat) (f : Nat → St) (a b : Int) (w : World) (h : SlS w A n f) :
    Calls Try.prog 19 #[.slice A n c, .int .i64 a, .int .i64 b] w (TraPost w n f a b) := by
  cases ho : trOk n f a b
  · exact tra_bad A n c f a b w h ho
  · have ho2 := ho
    simp only [trOk, inT, vld, Bool.and_eq_true, decide_eq_true_eq] at ho2
    obtain ⟨a, rfl⟩ : ∃ k : Nat, a = k := ⟨a.toNat, by omega⟩
    obtain ⟨b, rfl⟩ : ∃ k : Nat, b = k := ⟨b.toNat, by omega⟩
    rcases h.row with h0 | ⟨bb, off, rfl, hlt, hc⟩
    · omega
    · exact tra_good bb off n c f a b w h hlt hc ho
end Go.Proofs.Ytfmaadfccnjnjaa
