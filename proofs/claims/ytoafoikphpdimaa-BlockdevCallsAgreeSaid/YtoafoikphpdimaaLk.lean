/- Calls in the course of a law: one disk, two disks. -/
import Derived.Test.YtoafoikphpdimaaNew
namespace Go.Proofs.Ytoafoikphpdimaa
open Go.ChangeShapes Go.WideShapes Go.ChangeAt Go.RowKit Go.Deep Go.Joins
section
variable {w0 w w' : World} {F0 : Nat → Prop} {s s' : DkS} {v : Value} {Ka : Option Addr} {kc : Nat} {r : Value}
theorem Dw.comp {F : Nat → Prop} {e : Ending} (hF : ∀ b, F b → F0 b ∨ w0.heap.size ≤ b) (hc : Chg F0 w0 w) (h : OpP w F s' r e w') : OpP w0 F0 s' r e w' := by
  obtain ⟨rfl, v', Ka', kc', F', hF', hd, hc'⟩ := h
  have := hc.size
  refine ⟨rfl, v', Ka', kc', F', fun b hb => ?_, hd, hc.trans2 hc' (fun i hi hi2 => by rcases hF i hi2 with h | h; exact h; omega)⟩
  rcases hF' b hb with h | h
  · exact hF b h
  · right; omega
theorem Dw.call {K : Nat} {args : Array Value} (D : Dw w0 F0 w s v Ka kc) (h : ∀ F, Dk F w s v Ka kc → Calls Try.prog K args w (OpP w F s' r)) : Calls Try.prog K args w (OpP w0 F0 s' r) := by
  obtain ⟨F, hF, hd, hc⟩ := D
  exact (h F hd).mono fun e w' hp => Dw.comp hF hc hp
theorem Dw.call' {K : Nat} {args : Array Value} (D : Dw w0 F0 w s v Ka kc) (h : ∀ F, (∀ b, F b → F0 b ∨ w0.heap.size ≤ b) → Dk F w s v Ka kc → Calls Try.prog K args w (OpP w F s' r)) : Calls Try.prog K args w (OpP w0 F0 s' r) := by
  obtain ⟨F, hF, hd, hc⟩ := D
  exact (h F hF hd).mono fun e w' hp => Dw.comp hF hc hp
theorem Dw.below (D : Dw w0 F0 w s v Ka kc) (hb : Below w.heap.size w w') : Dw w0 F0 w' s v Ka kc := D.step (fun F h => ⟨h.below hb, Chg.of_below hb F⟩)
theorem Dw.bel (D : Dw w0 (fun _ => False) w s v Ka kc) : Below w0.heap.size w0 w := by
  obtain ⟨F, _, _, hc⟩ := D
  exact ⟨hc.os, hc.tape, hc.output, hc.size, fun i hi => hc.block i hi (fun x => x)⟩
end
theorem Dk.tight {F : Nat → Prop} {w : World} {s : DkS} {v : Value} {Ka : Option Addr} {kc : Nat} (h : Dk F w s v Ka kc) : Dk (fun b => F b ∧ b < w.heap.size) w s v Ka kc :=
  ⟨h.obj, h.sec, h.cac, h.kp, ⟨h.FL, h.lt.1⟩, ⟨h.FX, h.lt.2.1⟩, (fun k hk => ⟨h.Fv k hk, h.lt.2.2 k hk⟩), (fun a e hn => ⟨h.FK a e hn, h.kp.lt a e hn⟩), h.XL, h.vL, h.kL, h.hn, h.len, h.ks, h.pb⟩
theorem Dw.tight {w0 w : World} {F0 : Nat → Prop} {s : DkS} {v : Value} {Ka : Option Addr} {kc : Nat} (D : Dw w0 F0 w s v Ka kc) : ∃ F, (∀ b, F b → F0 b ∨ w0.heap.size ≤ b) ∧ Dk F w s v Ka kc ∧ Chg F0 w0 w ∧ ∀ b, F b → b < w.heap.size := by
  obtain ⟨F, hF, hd, hc⟩ := D
  exact ⟨_, fun b hb => hF b hb.1, hd.tight, hc, fun b hb => hb.2⟩
theorem OpP.chg {w0 w : World} {F0 : Nat → Prop} {s : DkS} {r : Value} {e : Ending} (h : OpP w0 F0 s r e w) : Chg F0 w0 w := by
  obtain ⟨_, _, _, _, _, _, _, hc⟩ := h
  exact hc
theorem wpAnyH_weak {P : Program} {ops : Array Oper} {Q : Exit → Act → World → Prop} {md : Region.Mode} {S S' : World → Prop} (hs : ∀ w, S' w → S w) : ∀ (fuel : Nat) (listed : Array Bool) (a : Act) (w : World), wpAnyH P md ops Q S' fuel listed a w → wpAnyH P md ops Q S fuel listed a w
  | 0, _, _, _, h => h
  | fuel + 1, _, _, _, h => ⟨h.1, fun i hi => wpOp_mono (fun a' w' h' => ⟨hs _ h'.1, wpAnyH_weak hs fuel _ a' w' h'.2⟩) (h.2 i hi)⟩
theorem wr_ok {s : DkS} {i : Int} {d : ByteArray} (h : hasB s i = true) (hd : d.size = 64) (ho : s.off = false) (hp : s.pl = false) : wrS s i d = (apS s i d, 0) := by
  unfold wrS
  rw [h, decide_eq_true hd, ho, hp]
  rfl
/-- An arm for a call of a disk in a law. -/
def LawP (w : World) (e : Ending) (w' : World) : Prop := e = .returned (.bool true) ∧ Below w.heap.size w w'
def aS1 (L X : Nat) : DkS := { s0 2 L X with C := [⟨0, secS 1⟩] }
def aS2 (L X : Nat) : DkS := { s0 2 L X with C := [⟨0, secS 1⟩, ⟨0, secS 2⟩] }
def aS3 (L X : Nat) : DkS := { s0 2 L X with S := [secS 1, zs], off := true }
theorem a_w1 (L X : Nat) : wrS (s0 2 L X) 0 (secS 1) = (aS1 L X, 0) := wr_ok rfl (secS_size 1) rfl rfl
theorem a_w2 (L X : Nat) : wrS (aS1 L X) 0 (secS 2) = (aS2 L X, 0) := wr_ok rfl (secS_size 2) rfl rfl
theorem a_off (L X : Nat) (q : Nat → Bool) (h0 : q 0 = true) (h1 : q 1 = false) : offS (aS2 L X) q 2 = aS3 L X := by
  have e : apk (aS2 L X).S (aS2 L X).C (kq q 2) 2 = [secS 1, zs] := by
    show apk [zs, zs] [⟨0, secS 1⟩, ⟨0, secS 2⟩] (kq q 2) 2 = _
    rw [apk_f (k := 1) (by simp [kq, h1]), apk_t (k := 0) (by simp [kq, h0]) (by simp)]
    rfl
  show loS (aS2 L X) q 2 = _
  unfold loS
  rw [show (aS2 L X).C.length = 2 from rfl, e]
  rfl
theorem a_rd (L X : Nat) : rdS (aS3 L X) 0 = (ByteArray.empty, 16) := rfl
theorem a_on (L X : Nat) : onS (aS3 L X) = { aS3 L X with off := false } := rfl
theorem a_rd2 (L X : Nat) : rdS { aS3 L X with off := false } 0 = (secS 1, 0) := rfl
theorem cnv_w (w : World) (N : Nat) (h : ∀ j, j < 64 → w.cell? ⟨N, j, none⟩ = some (.int .u8 0)) : (convert 46 9 (.slice (some ⟨N, 0, none⟩) 64 64)).run Try.prog w = .ok (.string zs) w := by
  have h := run_convert_bytes_arg (P := Try.prog) w 46 5 Try.underlying46 Try.underlying5 N 0 64 64 (List.replicate 64 0) (by simp) (fun j hj => by
    rw [Nat.zero_add, h j hj, List.getD_eq_getElem?_getD, List.getElem?_replicate, if_pos hj]
    rfl) 9 Try.underlying9
  rw [h]
  rfl
theorem made_z (w : World) : ∀ j, j < 64 → (w.alloc (.cells (madeCells #[.int .u8 0] 64) 5)).cell? ⟨w.heap.size, j, none⟩ = some (.int .u8 0) := fun j hj => by
  rw [new_c]
  have : (madeCells #[Value.int IntKind.u8 0] 64).toList = List.replicate 64 (.int .u8 0) := by rw [toList_madeCells_one]
  rw [← Array.getElem?_toList, this, List.getElem?_replicate, if_pos hj]
theorem cnv_z (w : World) : (convert 46 9 (.slice (some ⟨w.heap.size, 0, none⟩) 64 64)).run Try.prog (w.alloc (.cells (madeCells #[.int .u8 0] 64) 5)) = .ok (.string zs) (w.alloc (.cells (madeCells #[.int .u8 0] 64) 5)) := by
  have h := run_convert_bytes_arg (P := Try.prog) (w.alloc (.cells (madeCells #[.int .u8 0] 64) 5)) 46 5 Try.underlying46 Try.underlying5 w.heap.size 0 64 64 (List.replicate 64 0) (by simp) (fun j hj => by
    rw [new_c]
    have : (madeCells #[Value.int IntKind.u8 0] 64).toList = List.replicate 64 (.int .u8 0) := by rw [toList_madeCells_one]
    rw [← Array.getElem?_toList, this, List.getElem?_replicate, if_pos (by omega), List.getD_eq_getElem?_getD, List.getElem?_replicate, if_pos hj]
    rfl) 9 Try.underlying9
  rw [h]
  rfl
end Go.Proofs.Ytoafoikphpdimaa
