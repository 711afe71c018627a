/- EcQueriesInOrder. -/
import Derived.Test.YtdmbmjnobncgjaaRai
import Derived.Maps.AppendAt
namespace Go.Proofs.Ytdmbmjnobncgjaa
open Go.RowKit

/-- The ghost of the queue changed: what the queue is not in. -/
theorem ecq_X {w w' : World} {L : Nat} {s : EcS} {S X' : Nat → Prop} (h : EcQ w L s) (hc : Chg S w w') (hS : ∀ b, L + 1 ≤ b → ¬ s.xq b → ¬ S b) (hL : ¬ S L) (hX : ∀ b, X' b → b < w'.heap.size) (hXX : ∀ b, b < w.heap.size → X' b → s.xq b) : EcQ w' L { s with xq := X' } := by
  obtain ⟨A, c, k⟩ := h
  refine ⟨A, c, ⟨k.row.of_block (hc.block L k.row.lt hL), ?_, k.dl, k.ck, k.du, k.reg, k.vl, k.ou, k.cd, k.aa, k.ql, k.qn⟩⟩
  refine ⟨hX, ?_⟩
  rcases k.q.2 with h0 | ⟨b, off, hA, hB, hlt, hx, hcc, hr⟩
  · exact .inl h0
  · have hb := hc.block b hlt (hS b hB hx)
    have hf : ∀ o, w'.frozen? ⟨b, o, none⟩ = w.frozen? ⟨b, o, none⟩ := fun o => by unfold World.frozen?; simp only [hb]
    exact .inr ⟨b, off, hA, hB, Nat.lt_of_lt_of_le hlt hc.size, fun x => hx (hXX b hlt x), fun i hi => (World.cell?_of_block hb).trans (hcc i hi), fun i hi => ⟨by rw [World.cell?_of_block hb]; exact (hr i hi).1, by rw [hf]; exact (hr i hi).2⟩⟩
def Qq (d : Int) (R : Nat → Int) (ql : List Int) (p : Nat) (t : TrS) (s : EcS) : Prop :=
  s.us = true ∧ s.un = false ∧ s.dl = d ∧ s.reg = R ∧ s.ql = ql ∧ p = 0 ∧ t.st = 3 ∧ s.cm = true ∧ s.vl = 132
theorem chain_q (d : Int) (R : Nat → Int) (ql : List Int) : Chain 0 d (Qq d R ql) (fun t s => Rest s d R ∧ s.ql = ql.tail ∧ t.vl = ql.headD 0) := by
  refine ⟨fun p t s h => ?_, fun p t s c h => h, fun p t s n h hck hdu hn => ?_⟩
  · obtain ⟨h1, h2, h4, h5, h6, h7, h8, _⟩ := h
    exact ⟨by omega, h1⟩
  · obtain ⟨h1, h2, h4, h5, h6, rfl, a1, a2, a3⟩ := h
    have ha := adv_due h1 hck hdu
    have hm : sStart { s with ck := n, us := false } s.vl = { s with ck := n, us := false, cd := 0, ad := false, ou := ql.headD 0, un := true, ql := ql.tail } := by
      unfold sStart
      rw [if_neg (by omega), if_pos a3]
      show (match s.ql with | [] => _ | q :: r => _) = _
      rw [h6]
      cases ql <;> simp_all
    have ha : sAdv s n = { s with ck := n, us := false, cd := 0, ad := false, ou := ql.headD 0, un := true, ql := ql.tail } := ha.trans (by rw [if_pos a2]; exact hm)
    refine .inr ⟨{ t with st := 5, vl := ql.headD 0 }, { s with ck := n, us := false, cd := 0, ad := false, ou := ql.headD 0, un := false, ql := ql.tail }, ?_, ⟨⟨rfl, rfl, h4, h5⟩, rfl, rfl⟩, rfl, rfl⟩
    unfold sAct
    rw [ha, if_neg (by simp), if_neg (by omega), if_neg (by omega), if_neg (by omega), if_pos a1, if_pos rfl]
theorem fin_query (d : Int) (R : Nat → Int) (ql : List Int) (Z : Nat → Int) (len : Nat) (n0 : Int) (h0 : 0 ≤ n0) (hn0 : n0 < 100000) (hd0 : 0 ≤ d) (hd : d < 8) (t : TrS) (s : EcS) (ht : t = ⟨132, 0, 0, n0 + 1000, 0, 0⟩) (hs : Rest s d R) (hq : s.ql = ql) (hck : s.ck ≤ n0) :
    ∃ t' s' n', finP 200 0 t s n0 Z len = (t', s', n', true) ∧ (Rest s' d R ∧ s'.ql = ql.tail ∧ t'.vl = ql.headD 0) ∧ t'.st = 5 ∧ s'.ck = n' ∧ n' ≤ n0 + 800 ∧ n0 ≤ n' := by
  subst ht
  obtain ⟨s1, s2, s3, s4⟩ := hs
  exact chain_all (chain_q d R ql) (by omega) hd0 hd Z len n0 h0 hn0 _ _ s _ (by show (0 : Int) < 5; omega) (act_first _ s n0 rfl s1 s2 hck) ⟨rfl, s2, s3, s4, hq, rfl, rfl, rfl, rfl⟩ rfl (by show lat n0 s.dl = _; rw [s3, lat_small (by omega) hd]) rfl
theorem drop_head (l : List Int) (i : Nat) : (l.drop i).headD 0 = l.getD i 0 := by
  rw [List.headD_eq_head?_getD, List.head?_drop, List.getD_eq_getElem?_getD]
def QI1 (w0 : World) (L : Nat) (d : Int) (k : Nat) (vw vi : Value) (wr : World) : Prop :=
  ∃ (i : Nat) (WL : List Int) (s : EcS), vi = .int .i64 i ∧ i + k = 30 ∧ WL.length ≤ 16 ∧ (∀ x ∈ WL, U8 x) ∧ s.ql = WL ∧ Rest s d (fun _ => 0) ∧ s.ck = 0 ∧ s.xq = (fun j => vw.ownBlock = some j) ∧ EcQ wr L s ∧ wr.ownsRow (L + 1) 5 1 vw WL.length (WL.map (Value.int .u8)) ∧ Below w0.heap.size w0 wr
def QI2 (w0 : World) (L : Nat) (d : Int) (WL : List Int) (vw : Value) (k : Nat) (vn vi : Value) (wr : World) : Prop :=
  ∃ (i : Nat) (n : Int) (s : EcS), vi = .int .i64 i ∧ vn = .int .u64 n ∧ i + k = WL.length + 1 ∧ 0 ≤ n ∧ n ≤ 800 * i ∧ s.ql = WL.drop i ∧ Rest s d (fun _ => 0) ∧ s.ck ≤ n ∧ EcQ wr L s ∧ wr.ownsRow (L + 1) 5 1 vw WL.length (WL.map (Value.int .u8)) ∧ Below w0.heap.size w0 wr
theorem rb_below {w0 w w' : World} {L : Nat} {s : EcS} (h : Below w0.heap.size w0 w) (k : Chg (RB L s) w w') (h2 : w0.heap.size ≤ L) : Below w0.heap.size w0 w' :=
  Below.chg h k h.size (fun j hj => by rcases hj with rfl | hj <;> omega)
theorem rb_want {w w' : World} {L n : Nat} {s : EcS} {v : Value} {xs : List Value} (h : w.ownsRow (L + 1) 5 1 v n xs) (k : Chg (RB L s) w w') (hx : s.xq = (fun j => v.ownBlock = some j)) : w'.ownsRow (L + 1) 5 1 v n xs :=
  own_chg h k (fun j hj e => by
    have := (h.lt j hj).1
    rcases e with rfl | ⟨_, e⟩
    · omega
    · rw [hx] at e; exact e hj)
/-- The list's new number in the list wanted. -/
theorem want_step {w W0 W : World} {L n : Nat} {s : EcS} {v v' : Value} {xs : List Value} {o : Obj} (h : EcQ w L s) (hx : s.xq = (fun j => v.ownBlock = some j)) (hown : w.ownsRow (L + 1) 5 1 v n xs) (hW0 : w.alloc o = W0) (hg : W0.grownBy W v.ownBlock) (hat : v'.ownBlock = v.ownBlock ∨ v'.ownBlock = some W0.heap.size) {n' : Nat} {ys : List Value} (hown' : W.ownsRow (L + 1) 5 1 v' n' ys) :
    EcQ W L { s with xq := fun j => v'.ownBlock = some j } := by
  have hsz : W0.heap.size = w.heap.size + 1 := by rw [← hW0]; simp
  have hc : Chg (fun j => v.ownBlock = some j) w W := (by rw [← hW0]; exact Chg.alloc _ _ _ : Chg (fun j => v.ownBlock = some j) w W0).trans (Chg.of_grown hg)
  refine ecq_X h hc (fun b _ hb => by rw [hx] at hb; exact hb) (fun e => by have := (hown.lt L e).1; omega) (fun b hb => (hown'.lt b hb).2) (fun b hlt hb => ?_)
  rw [hx]
  rcases hat with e | e
  · exact e ▸ hb
  · rw [e] at hb
    injection hb with hb
    omega
end Go.Proofs.Ytdmbmjnobncgjaa
