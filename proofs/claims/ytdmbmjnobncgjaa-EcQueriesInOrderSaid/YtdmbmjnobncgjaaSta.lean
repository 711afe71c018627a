/- The embedded controller: its state as a structure, its cells, and what each field's store leaves. -/
import Derived.Test.YtdmbmjnobncgjaaGen
namespace Go.Proofs.Ytdmbmjnobncgjaa
open Go.RowKit

/-- A controller: delay, clock, registers; the input (used, command, value, due); output, unread; the queue (where it lies, its numbers, its room); command, addressed, address. -/
structure EcS where
  dl : Int
  ck : Int
  reg : Nat → Int
  us : Bool
  cm : Bool
  vl : Int
  du : Int
  ou : Int
  un : Bool
  qa : Option Addr
  ql : List Int
  qc : Nat
  cd : Int
  ad : Bool
  aa : Int
  xq : Nat → Prop
def ecell (s : EcS) (i : Nat) : Value :=
  if i = 0 then .int .u64 s.dl else if i = 1 then .int .u64 s.ck else if i = 258 then .bool s.us else if i = 259 then .bool s.cm else if i = 260 then .int .u8 s.vl else if i = 261 then .int .u64 s.du else if i = 262 then .int .u8 s.ou
  else if i = 263 then .bool s.un else if i = 264 then .slice s.qa s.ql.length s.qc else if i = 265 then .int .u8 s.cd else if i = 266 then .bool s.ad else if i = 267 then .int .u8 s.aa else .int .u8 (s.reg (i - 2))
theorem er_dl {w : World} {L : Nat} {s : EcS} (h : w.rowIs L 66 268 (ecell s)) : w.cell? ⟨L, 0, none⟩ = some (.int .u64 s.dl) := h.cell (show 0 < 268 by omega)
theorem ew_dl {w : World} {L : Nat} {s : EcS} (h : w.rowIs L 66 268 (ecell s)) (x : Int) : (w.setCell ⟨L, 0, none⟩ (.int .u64 x)).rowIs L 66 268 (ecell { s with dl := x }) :=
  (h.set 0 _).congr fun i _ => by
    by_cases e : i = 0
    · subst e; simp [ecell]
    · simp [ecell, e]
theorem er_ck {w : World} {L : Nat} {s : EcS} (h : w.rowIs L 66 268 (ecell s)) : w.cell? ⟨L, 1, none⟩ = some (.int .u64 s.ck) := h.cell (show 1 < 268 by omega)
theorem ew_ck {w : World} {L : Nat} {s : EcS} (h : w.rowIs L 66 268 (ecell s)) (x : Int) : (w.setCell ⟨L, 1, none⟩ (.int .u64 x)).rowIs L 66 268 (ecell { s with ck := x }) :=
  (h.set 1 _).congr fun i _ => by
    by_cases e : i = 1
    · subst e; simp [ecell]
    · simp [ecell, e]
theorem er_us {w : World} {L : Nat} {s : EcS} (h : w.rowIs L 66 268 (ecell s)) : w.cell? ⟨L, 258, none⟩ = some (.bool s.us) := h.cell (show 258 < 268 by omega)
theorem ew_us {w : World} {L : Nat} {s : EcS} (h : w.rowIs L 66 268 (ecell s)) (x : Bool) : (w.setCell ⟨L, 258, none⟩ (.bool x)).rowIs L 66 268 (ecell { s with us := x }) :=
  (h.set 258 _).congr fun i _ => by
    by_cases e : i = 258
    · subst e; simp [ecell]
    · simp [ecell, e]
theorem er_cm {w : World} {L : Nat} {s : EcS} (h : w.rowIs L 66 268 (ecell s)) : w.cell? ⟨L, 259, none⟩ = some (.bool s.cm) := h.cell (show 259 < 268 by omega)
theorem ew_cm {w : World} {L : Nat} {s : EcS} (h : w.rowIs L 66 268 (ecell s)) (x : Bool) : (w.setCell ⟨L, 259, none⟩ (.bool x)).rowIs L 66 268 (ecell { s with cm := x }) :=
  (h.set 259 _).congr fun i _ => by
    by_cases e : i = 259
    · subst e; simp [ecell]
    · simp [ecell, e]
theorem er_vl {w : World} {L : Nat} {s : EcS} (h : w.rowIs L 66 268 (ecell s)) : w.cell? ⟨L, 260, none⟩ = some (.int .u8 s.vl) := h.cell (show 260 < 268 by omega)
theorem ew_vl {w : World} {L : Nat} {s : EcS} (h : w.rowIs L 66 268 (ecell s)) (x : Int) : (w.setCell ⟨L, 260, none⟩ (.int .u8 x)).rowIs L 66 268 (ecell { s with vl := x }) :=
  (h.set 260 _).congr fun i _ => by
    by_cases e : i = 260
    · subst e; simp [ecell]
    · simp [ecell, e]
theorem er_du {w : World} {L : Nat} {s : EcS} (h : w.rowIs L 66 268 (ecell s)) : w.cell? ⟨L, 261, none⟩ = some (.int .u64 s.du) := h.cell (show 261 < 268 by omega)
theorem ew_du {w : World} {L : Nat} {s : EcS} (h : w.rowIs L 66 268 (ecell s)) (x : Int) : (w.setCell ⟨L, 261, none⟩ (.int .u64 x)).rowIs L 66 268 (ecell { s with du := x }) :=
  (h.set 261 _).congr fun i _ => by
    by_cases e : i = 261
    · subst e; simp [ecell]
    · simp [ecell, e]
theorem er_ou {w : World} {L : Nat} {s : EcS} (h : w.rowIs L 66 268 (ecell s)) : w.cell? ⟨L, 262, none⟩ = some (.int .u8 s.ou) := h.cell (show 262 < 268 by omega)
theorem ew_ou {w : World} {L : Nat} {s : EcS} (h : w.rowIs L 66 268 (ecell s)) (x : Int) : (w.setCell ⟨L, 262, none⟩ (.int .u8 x)).rowIs L 66 268 (ecell { s with ou := x }) :=
  (h.set 262 _).congr fun i _ => by
    by_cases e : i = 262
    · subst e; simp [ecell]
    · simp [ecell, e]
theorem er_un {w : World} {L : Nat} {s : EcS} (h : w.rowIs L 66 268 (ecell s)) : w.cell? ⟨L, 263, none⟩ = some (.bool s.un) := h.cell (show 263 < 268 by omega)
theorem ew_un {w : World} {L : Nat} {s : EcS} (h : w.rowIs L 66 268 (ecell s)) (x : Bool) : (w.setCell ⟨L, 263, none⟩ (.bool x)).rowIs L 66 268 (ecell { s with un := x }) :=
  (h.set 263 _).congr fun i _ => by
    by_cases e : i = 263
    · subst e; simp [ecell]
    · simp [ecell, e]
theorem er_cd {w : World} {L : Nat} {s : EcS} (h : w.rowIs L 66 268 (ecell s)) : w.cell? ⟨L, 265, none⟩ = some (.int .u8 s.cd) := h.cell (show 265 < 268 by omega)
theorem ew_cd {w : World} {L : Nat} {s : EcS} (h : w.rowIs L 66 268 (ecell s)) (x : Int) : (w.setCell ⟨L, 265, none⟩ (.int .u8 x)).rowIs L 66 268 (ecell { s with cd := x }) :=
  (h.set 265 _).congr fun i _ => by
    by_cases e : i = 265
    · subst e; simp [ecell]
    · simp [ecell, e]
theorem er_ad {w : World} {L : Nat} {s : EcS} (h : w.rowIs L 66 268 (ecell s)) : w.cell? ⟨L, 266, none⟩ = some (.bool s.ad) := h.cell (show 266 < 268 by omega)
theorem ew_ad {w : World} {L : Nat} {s : EcS} (h : w.rowIs L 66 268 (ecell s)) (x : Bool) : (w.setCell ⟨L, 266, none⟩ (.bool x)).rowIs L 66 268 (ecell { s with ad := x }) :=
  (h.set 266 _).congr fun i _ => by
    by_cases e : i = 266
    · subst e; simp [ecell]
    · simp [ecell, e]
theorem er_aa {w : World} {L : Nat} {s : EcS} (h : w.rowIs L 66 268 (ecell s)) : w.cell? ⟨L, 267, none⟩ = some (.int .u8 s.aa) := h.cell (show 267 < 268 by omega)
theorem ew_aa {w : World} {L : Nat} {s : EcS} (h : w.rowIs L 66 268 (ecell s)) (x : Int) : (w.setCell ⟨L, 267, none⟩ (.int .u8 x)).rowIs L 66 268 (ecell { s with aa := x }) :=
  (h.set 267 _).congr fun i _ => by
    by_cases e : i = 267
    · subst e; simp [ecell]
    · simp [ecell, e]
theorem er_q {w : World} {L : Nat} {s : EcS} (h : w.rowIs L 66 268 (ecell s)) : w.cell? ⟨L, 264, none⟩ = some (.slice s.qa s.ql.length s.qc) := h.cell (show 264 < 268 by omega)
theorem ew_q {w : World} {L : Nat} {s : EcS} (h : w.rowIs L 66 268 (ecell s)) (a : Option Addr) (l : List Int) (n c : Nat) (hn : n = l.length) : (w.setCell ⟨L, 264, none⟩ (.slice a n c)).rowIs L 66 268 (ecell { s with qa := a, ql := l, qc := c }) :=
  (h.set 264 _).congr fun i _ => by
    subst hn
    by_cases e : i = 264
    · subst e; simp [ecell]
    · simp [ecell, e]
theorem ecell_reg (s : EcS) (k : Nat) (hk : k < 256) : ecell s (2 + k) = .int .u8 (s.reg k) := by
  unfold ecell
  rw [if_neg (by omega), if_neg (by omega), if_neg (by omega), if_neg (by omega), if_neg (by omega), if_neg (by omega), if_neg (by omega), if_neg (by omega), if_neg (by omega), if_neg (by omega), if_neg (by omega), if_neg (by omega), Nat.add_sub_cancel_left]
theorem er_reg {w : World} {L : Nat} {s : EcS} (h : w.rowIs L 66 268 (ecell s)) (k : Nat) (hk : k < 256) : w.cell? ⟨L, 2 + k, none⟩ = some (.int .u8 (s.reg k)) := by
  rw [h.cell (show 2 + k < 268 by omega), ecell_reg s k hk]
def updR (f : Nat → Int) (k : Nat) (x : Int) (i : Nat) : Int := if i = k then x else f i
theorem ew_reg {w : World} {L : Nat} {s : EcS} (h : w.rowIs L 66 268 (ecell s)) (k : Nat) (hk : k < 256) (x : Int) : (w.setCell ⟨L, 2 + k, none⟩ (.int .u8 x)).rowIs L 66 268 (ecell { s with reg := updR s.reg k x }) :=
  (h.set (2 + k) _).congr fun i hi => by
    by_cases e : i = 2 + k
    · subst e
      rw [if_pos rfl, ecell_reg _ k hk]
      simp [updR]
    · rw [if_neg e]
      by_cases h1 : 2 ≤ i ∧ i < 258
      · obtain ⟨j, rfl⟩ : ∃ j, i = 2 + j := ⟨i - 2, by omega⟩
        have hj : j ≠ k := fun q => e (by rw [q])
        rw [ecell_reg _ j (by omega), ecell_reg _ j (by omega)]
        show Value.int .u8 (s.reg j) = Value.int .u8 (if j = k then x else s.reg j)
        rw [if_neg hj]
      · rcases (show i = 0 ∨ i = 1 ∨ i = 258 ∨ i = 259 ∨ i = 260 ∨ i = 261 ∨ i = 262 ∨ i = 263 ∨ i = 264 ∨ i = 265 ∨ i = 266 ∨ i = 267 by omega) with rfl | rfl | rfl | rfl | rfl | rfl | rfl | rfl | rfl | rfl | rfl | rfl <;> rfl
def U8 (x : Int) : Prop := 0 ≤ x ∧ x ≤ 255
/-- A queue: its numbers lie in a block from B on that is none of X, with room for c numbers. -/
def QX (B : Nat) (X : Nat → Prop) (w : World) (A : Option Addr) (l : List Int) (c : Nat) : Prop :=
  (∀ b, X b → b < w.heap.size) ∧ ((l = [] ∧ c = 0) ∨ ∃ b off, A = some ⟨b, off, none⟩ ∧ B ≤ b ∧ b < w.heap.size ∧ ¬ X b ∧ (∀ i, i < l.length → w.cell? ⟨b, off + i, none⟩ = some (.int .u8 (l.getD i 0)))
    ∧ ∀ i, i < c → (w.cell? ⟨b, off + i, none⟩).isSome = true ∧ w.frozen? ⟨b, off + i, none⟩ = false)
theorem QX.chg {B : Nat} {X : Nat → Prop} {S : Nat → Prop} {w w' : World} {A : Option Addr} {l : List Int} {c : Nat} (h : QX B X w A l c) (hc : Chg S w w') (hn : ∀ b, B ≤ b → ¬ X b → ¬ S b) : QX B X w' A l c := by
  obtain ⟨hX, h⟩ := h
  refine ⟨fun b hb => Nat.lt_of_lt_of_le (hX b hb) hc.size, ?_⟩
  rcases h with h0 | ⟨b, off, hA, hB, hlt, hx, hcell, hr⟩
  · exact .inl h0
  · have hb := hc.block b hlt (hn b hB hx)
    have hf : ∀ o, w'.frozen? ⟨b, o, none⟩ = w.frozen? ⟨b, o, none⟩ := fun o => by unfold World.frozen?; simp only [hb]
    exact .inr ⟨b, off, hA, hB, Nat.lt_of_lt_of_le hlt hc.size, hx, fun i hi => (World.cell?_of_block hb).trans (hcell i hi), fun i hi => ⟨by rw [World.cell?_of_block hb]; exact (hr i hi).1, by rw [hf]; exact (hr i hi).2⟩⟩
/-- A controller in a world. -/
structure Ec (w : World) (L : Nat) (s : EcS) : Prop where
  row : w.rowIs L 66 268 (ecell s)
  q : QX (L + 1) s.xq w s.qa s.ql s.qc
  dl : U64 s.dl
  ck : U64 s.ck
  du : U64 s.du
  reg : ∀ i, i < 256 → U8 (s.reg i)
  vl : U8 s.vl
  ou : U8 s.ou
  cd : U8 s.cd
  aa : U8 s.aa
  ql : s.ql.length ≤ 1000000 ∧ ∀ x ∈ s.ql, U8 x
  qn : s.ql.length ≤ s.qc
theorem QX.own {L : Nat} {X : Nat → Prop} {w w' : World} {A : Option Addr} {l : List Int} {c : Nat} (h : QX (L + 1) X w A l c) (hg : w.grownBy w' (some L)) : QX (L + 1) X w' A l c :=
  h.chg (Chg.of_grown hg) (fun b hb _ e => by injection e with e; omega)
/-- What a method leaves that returns nothing. -/
def EPost (w : World) (L : Nat) (s : EcS) (v : Value) (e : Ending) (w' : World) : Prop := e = .returned v ∧ Ec w' L s ∧ w.grownBy w' (some L)
theorem put_any (w : World) (L : Nat) (s : EcS) (v : Int) (h : Ec w L s) (hv : U8 v) : Calls Try.prog 50 #[.pointer (some ⟨L, 0, none⟩), .int .u8 v] w (EPost w L { s with ou := v, un := true } (.tuple #[])) := by
  have c1 := er_ou h.row
  have c2 := er_un h.row
  have z1 := h.row.frozen 262
  have z2 := h.row.frozen 263
  have hL := h.row.lt
  have H := Lib.hid h
  clear h
  go_enter Try.func50, Try.ntmps50
  go_wp2
  go_end0
  have g := g_then (g_store w L 262 (.int .u8 v)) (g_store _ L 263 (.bool true))
  exact ⟨rfl, ⟨ew_un (ew_ou H.out.row v) true, H.out.q.own g, H.out.dl, H.out.ck, H.out.du, H.out.reg, H.out.vl, hv, H.out.cd, H.out.aa, H.out.ql, H.out.qn⟩, g⟩
end Go.Proofs.Ytdmbmjnobncgjaa
