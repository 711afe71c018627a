/- The reference: Arm. -/
import Derived.Test.YtmhabdpnakbfpaaRnw
import Derived.Maps.AppendAt
namespace Go.Proofs.Ytmhabdpnakbfpaa
open Go.ChangeShapes Go.WideShapes Go.ChangeAt Go.RowKit Go.Deep Go.Joins

theorem own_keep {w w' : World} {base n t size : Nat} {v : Value} {xs : List Value} (h : w.ownsRow base t size v n xs) (hr : ∀ k, v.ownBlock = some k → w'.heap[k]? = w.heap[k]?) : w'.ownsRow base t size v n xs := by
  refine ⟨h.1, ?_⟩
  rcases h.2 with hn | ⟨g, cap, cur, rfl, hb, hg, rest⟩
  · exact .inl hn
  · exact .inr ⟨g, cap, cur, rfl, hb, (hr g rfl).trans hg, rest⟩
theorem own_keep2 {w w' : World} {base n t size : Nat} {v : Value} {xs : List Value} (h : w.ownsRow base t size v n xs) (hr : ∀ k, k < w.heap.size → w'.heap[k]? = w.heap[k]?) : w'.ownsRow base t size v n xs := own_keep h (fun k hk => hr k (h.lt k hk).2)
theorem step_lies0 {P : Program} (w : World) {ops : Array Oper} {o : Oper} {a : Act} {K : Act → World → Prop} {Q : Exit → Act → World → Prop} {E : Prop} (hgd : o.guard = none) (s x : Operand) (t : TypeId)
    (ho : o.op = .call { callee := .builtin .append, args := #[s, x], argTypes := #[t, t] })
    (base : Nat) (e : TypeId) (i : TypeInfo) (z : Value) (size bytes : Nat) (ht : P.underlying t = some (.slice e)) (hi : P.info? e = some i) (hz : i.zero = some z)
    (hsize : i.size = size) (hby : i.bytes = bytes) (hzs : z.cells.size = size) (hsz : 0 < size)
    (g0 c0 n : Nat) (xs : List Value) (hs : a.eval s = .slice (some ⟨g0, 0, none⟩) n c0) (hown : w.ownsRow base e size (.slice (some ⟨g0, 0, none⟩) n c0) n xs)
    (ad : Addr) (m c : Nat) (news : List Value) (hx : a.eval x = .slice (some ad) m c) (hl : news.length = m * size) (hnews : ∀ j u, news[j]? = some u → w.cell? (ad.add j) = some u) (h1 : ∀ u ∈ news, u.oneCell' = true)
    (h63 : n + m ≤ maxLen) (hbytes : (n + m) * bytes ≤ 140737488355328) (hbase : base ≤ w.heap.size)
    (h : ∀ g cap w', w'.ownsRow base e size (.slice (some ⟨g, 0, none⟩) (n + m) cap) (n + m) (xs ++ news) → w.grownBy w' (some g0) → (g = g0 ∨ g = w.heap.size) → K (a.put o.dst (.slice (some ⟨g, 0, none⟩) (n + m) cap)) w') :
    if Region.wanted o (yielded ops a.tmps) = true then Oper.wp P o a w K Q else E := by
  have hw : Region.wanted o (yielded ops a.tmps) = true := by simp [Region.wanted, hgd]
  rw [if_pos hw]
  obtain ⟨v', w', hr, h2, h3, h4, h5⟩ := run_append_own_at (P := P) w base t o.type e i z size bytes ht hi hz hsize hby hzs hsz (.slice (some ⟨g0, 0, none⟩) n c0) n xs hown ad m c news hl hnews h1 h63 hbytes hbase
  obtain ⟨g, cap, rfl⟩ : ∃ g cap, v' = .slice (some ⟨g, 0, none⟩) (n + m) cap := by
    rcases h2.2 with ⟨hv, _⟩ | ⟨g, cap, cur, hv, _⟩
    · exact absurd (h4.1 hv).1 (by simp)
    · exact ⟨g, cap, hv⟩
  unfold Oper.wp execOp
  simp only [ho, resolve, invoke, builtin, Sem.run_bind, Sem.run_pure, Result.andThen_ok, List.map_toArray, List.map_cons, List.map_nil, hs, hx, hr]
  refine h g cap w' h2 h3 ?_
  rcases h5 with h5 | h5
  · exact .inl (Option.some.inj h5)
  · exact .inr (Option.some.inj h5)
theorem own_empty (w : World) (e : Nat) {base : Nat} (hb : base ≤ w.heap.size) : (w.alloc (.cells #[] e)).ownsRow base e 1 (.slice (some ⟨w.heap.size, 0, none⟩) 0 0) 0 [] :=
  ⟨rfl, .inr ⟨w.heap.size, 0, #[], rfl, hb, heap_alloc_new w _, Nat.le_refl _, by unfold maxLen; omega, rfl, rfl⟩⟩
def WS.cp (s : WS) : WS := { s with ar := false, rm := 0, ck := 0 }
theorem advK_cp (s : WS) (now : Int) (k : Nat) : advK s.cp now k = { advK s now k with ar := false, rm := 0 } := by
  induction k with
  | zero => rfl
  | succ k ih =>
    unfold advK
    rw [ih]
    show (if dueB (advK s now k) now k then _ else _) = _
    split <;> rfl
theorem adv_cp (s : WS) (now : Int) : adv s.cp now = { adv s now with ar := false, rm := 0 } := by
  unfold adv
  rw [advK_cp]
  show advA { advK s now s.n with ar := false, rm := 0 } now = _
  unfold advA
  show (if (advK s now s.n).al && decide ((advK s now s.n).a ≤ now) then _ else _) = _
  split <;> rfl
theorem cntK_cp (s : WS) (k : Nat) : cntK { s with ar := false, rm := 0 } k = cntK s k := by
  induction k with
  | zero => rfl
  | succ k ih => unfold cntK; rw [ih]
def nA (s : WS) : List Value := (List.range s.n).map (fun i => .bool (s.q i).on)
def nB (s : WS) (hf : Nat → Int) : List Value := (List.range s.n).map (fun i => .int .u64 (hf i))
/-- What region 3 leaves. -/
def CpP (w : World) (s : WS) (v : Value) (wx : World) : Prop := ∃ z : Ry, v = .pointer (some ⟨z.L, 0, none⟩) ∧ Rk wx s.cp z ∧ w.heap.size ≤ z.L ∧ w.heap.size ≤ z.X ∧ w.heap.size ≤ z.Y ∧ Below w.heap.size w wx
theorem cp_fin {w : World} {s : WS} {y : Ry} (h : Rk w s y) (hf : Nat → Int) (hhf : ∀ i, i < s.n → (s.q i).on = true → hf i = if (s.q i).hd then (s.q i).t + 1 else 0) (av : Int) (hav : s.al = true → av = s.a) (W : World) (gA cA gB cB : Nat)
    (b : Below w.heap.size w W) (oA : W.ownsRow w.heap.size 4 1 (.slice (some ⟨gA, 0, none⟩) s.n cA) s.n (nA s)) (oB : W.ownsRow w.heap.size 32 1 (.slice (some ⟨gB, 0, none⟩) s.n cB) s.n (nB s hf)) (hne : gA ≠ gB) :
    CpP w s (.pointer (some ⟨W.heap.size, 0, none⟩)) (W.alloc (.cells #[.slice (some ⟨gA, 0, none⟩) s.n cA, .slice (some ⟨gB, 0, none⟩) s.n cB, .int .u64 av, .bool s.al, .int .i64 s.ev, .bool false, .int .i64 0, .int .u64 0] 41)) := by
  have lA := oA.lt gA rfl
  have lB := oB.lt gB rfl
  have b3 : Below W.heap.size W (W.alloc (.cells #[.slice (some ⟨gA, 0, none⟩) s.n cA, .slice (some ⟨gB, 0, none⟩) s.n cB, .int .u64 av, .bool s.al, .int .i64 s.ev, .bool false, .int .i64 0, .int .u64 0] 41)) := bal (Below.refl _ _) _
  have z : ∀ j, (W.alloc (.cells #[.slice (some ⟨gA, 0, none⟩) s.n cA, .slice (some ⟨gB, 0, none⟩) s.n cB, .int .u64 av, .bool s.al, .int .i64 s.ev, .bool false, .int .i64 0, .int .u64 0] 41)).cell? ⟨W.heap.size, j, none⟩ = (#[.slice (some ⟨gA, 0, none⟩) s.n cA, .slice (some ⟨gB, 0, none⟩) s.n cB, .int .u64 av, .bool s.al, .int .i64 s.ev, .bool false, .int .i64 0, .int .u64 0] : Array Value)[j]? := fun j => new_c W _ 41 j
  refine ⟨⟨W.heap.size, gA, gB, cA, cB⟩, rfl, ⟨(z 0).trans rfl, (z 1).trans rfl, ⟨av, (z 2).trans rfl, hav⟩, (z 3).trans rfl, (z 4).trans rfl, (z 5).trans rfl, ⟨0, (z 6).trans rfl, fun e => by cases e⟩, (z 7).trans rfl, ?_, ?_, ?_, ?_, ?_, ?_, hne, h.hn, fun i hi => ?_, fun i hi => ?_, h.tb, Int.le_refl _⟩, b.size, lA.1, lB.1, bal b _⟩
  · intro k hk j
    rcases hk with e | e | e
    · have e : k = W.heap.size := e
      rw [e]
      exact World.frozen?_alloc_new W _ _ j
    · have e : k = gA := e
      rw [e]
      exact (b3.frozen (p := ⟨gA, j, none⟩) (by exact lA.2)).trans (oA.frozenAt j)
    · have e : k = gB := e
      rw [e]
      exact (b3.frozen (p := ⟨gB, j, none⟩) (by exact lB.2)).trans (oB.frozenAt j)
  · show W.heap.size < _; simp
  · show gA < _; simp; omega
  · show gB < _; simp; omega
  · show gA ≠ W.heap.size; omega
  · show gB ≠ W.heap.size; omega
  · have hi : i < s.n := hi
    refine (b3.cell (p := ⟨gA, i, none⟩) (by exact lA.2)).trans ?_
    rw [oA.cellAt i (by omega)]
    unfold nA
    rw [List.getElem?_map, List.getElem?_range hi]
    rfl
  · have hi : i < s.n := hi
    refine ⟨hf i, (b3.cell (p := ⟨gB, i, none⟩) (by exact lB.2)).trans ?_, hhf i hi⟩
    rw [oB.cellAt i (by omega)]
    unfold nB
    rw [List.getElem?_map, List.getElem?_range hi]
    rfl
section
variable {w : World} {s : WS} {y : Ry}
set_option maxRecDepth 20000 in
set_option maxHeartbeats 16000000 in
theorem rarm_yes (h : Rk w s y) (ev now : Int) (hv : vtB s now = true) : Calls Try.prog 28 #[.pointer (some ⟨y.L, 0, none⟩), .int .i64 ev, .int .u64 now] w (RoP w y (armS s ev now).1 (.int .i64 (armS s ev now).2)) := by
  have hp := vtB_pos hv h.ck0
  have P := Lib.hid (late_any h now)
  have EB : Hid (¬ ((adv s now).ev = ev ∧ cnt (adv s now) = 0) → armS s ev now = (s, 17)) := fun e => by unfold armS; rw [hv, if_pos rfl, if_neg e]
  have EY : Hid ((adv s now).ev = ev ∧ cnt (adv s now) = 0 → armS s ev now = ({ adv s now with ar := true, rm := ev }, 0)) := fun e => by unfold armS; rw [hv, if_pos rfl, if_pos e]
  rw [hv] at P
  obtain ⟨av, ha2, hav⟩ := h.c2
  have CL : Hid (∀ W, Below w.heap.size w W → W.cell? ⟨y.L, 0, none⟩ = some (.slice (some ⟨y.X, 0, none⟩) s.n y.c) ∧ W.cell? ⟨y.L, 1, none⟩ = some (.slice (some ⟨y.Y, 0, none⟩) s.n y.d) ∧ W.cell? ⟨y.L, 2, none⟩ = some (.int .u64 av) ∧ W.cell? ⟨y.L, 3, none⟩ = some (.bool s.al) ∧ W.cell? ⟨y.L, 4, none⟩ = some (.int .i64 s.ev)) := fun W hW =>
    ⟨(hW.cell (by exact h.lL)).trans h.c0, (hW.cell (by exact h.lL)).trans h.c1, (hW.cell (by exact h.lL)).trans ha2, (hW.cell (by exact h.lL)).trans h.c3, (hW.cell (by exact h.lL)).trans h.c4⟩
  obtain ⟨hf, hhf⟩ : ∃ hf : Nat → Int, ∀ i, i < s.n → w.cell? ⟨y.Y, i, none⟩ = some (.int .u64 (hf i)) ∧ ((s.q i).on = true → hf i = if (s.q i).hd then (s.q i).t + 1 else 0) := by
    have K0 : ∀ i, ∃ v, i < s.n → w.cell? ⟨y.Y, i, none⟩ = some (.int .u64 v) ∧ ((s.q i).on = true → v = if (s.q i).hd then (s.q i).t + 1 else 0) := fun i => by
      by_cases hi : i < s.n
      · obtain ⟨v, h1, h2⟩ := h.hd i hi
        exact ⟨v, fun _ => ⟨h1, h2⟩⟩
      · exact ⟨0, fun h => absurd h hi⟩
    exact Classical.axiomOfChoice K0
  have CA : Hid (∀ W, Below w.heap.size w W → ∀ j u, (nA s)[j]? = some u → W.cell? (Addr.add ⟨y.X, 0, none⟩ j) = some u) := fun W hW j u hu => by
    rw [add_plain, Nat.zero_add]
    unfold nA at hu
    rw [List.getElem?_map] at hu
    by_cases hj : j < s.n
    · rw [List.getElem?_range hj] at hu
      simp only [Option.map_some] at hu
      rw [← hu]
      exact (hW.cell (by exact h.lX)).trans (h.on j hj)
    · rw [List.getElem?_eq_none (by simp; omega)] at hu
      cases hu
  have CB : Hid (∀ W, Below w.heap.size w W → ∀ j u, (nB s hf)[j]? = some u → W.cell? (Addr.add ⟨y.Y, 0, none⟩ j) = some u) := fun W hW j u hu => by
    rw [add_plain, Nat.zero_add]
    unfold nB at hu
    rw [List.getElem?_map] at hu
    by_cases hj : j < s.n
    · rw [List.getElem?_range hj] at hu
      simp only [Option.map_some] at hu
      rw [← hu]
      exact (hW.cell (by exact h.lY)).trans (hhf j hj).1
    · rw [List.getElem?_eq_none (by simp; omega)] at hu
      cases hu
  have LA : Hid ((nA s).length = s.n * 1) := by show _ = _; unfold nA; simp
  have LB : Hid ((nB s hf).length = s.n * 1) := by show _ = _; unfold nB; simp
  have OA1 : Hid (∀ u ∈ nA s, u.oneCell' = true) := fun u hu => by
    obtain ⟨j, _, rfl⟩ := List.mem_map.1 hu
    rfl
  have OB1 : Hid (∀ u ∈ nB s hf, u.oneCell' = true) := fun u hu => by
    obtain ⟨j, _, rfl⟩ := List.mem_map.1 hu
    rfl
  obtain ⟨i4, hi4, hz4⟩ := Option.map_eq_some_iff.1 info4
  simp only [Prod.mk.injEq] at hz4
  have HI4 := Lib.hid (And.intro hi4 (And.intro hz4.1 (And.intro hz4.2.1 hz4.2.2)))
  obtain ⟨i32, hi32, hz32⟩ := Option.map_eq_some_iff.1 info32
  simp only [Prod.mk.injEq] at hz32
  have HI32 := Lib.hid (And.intro hi32 (And.intro hz32.1 (And.intro hz32.2.1 hz32.2.2)))
  have hn := h.hn
  have FIN := Lib.hid (fun W gA cA gB cB b oA oB hne => cp_fin h hf (fun i hi => (hhf i hi).2) av hav W gA cA gB cB b oA oB hne)
  have H := Lib.hid h
  generalize hNA : nA s = NA at *
  generalize hNB : nB s hf = NB at *
  clear hv hi4 hz4 hi32 hz32 ha2 hav hhf hNA hNB h
  have bw_ : Below w.heap.size w w.drew := (Below.refl _ w).drew
  go_enter Try.func28, Try.ntmps28
  go_wp2_with fail
  refine P.out.mono ?_
  clear P
  rintro e w2 ⟨rfl, rfl⟩
  go_upto_region 3 with fail
  go_cut [7] (fun v wx => CpP w s v wx)
  case first =>
    refine wp_region_noPanic ?_
    refine wp_region_held_drew (S := fun W => Below w.heap.size w W) (by kernel_rfl) (bw_) (fun hHeld => ?_)
    refine wpAnyH_take (i := 1) (v := ?va1) (by simp only [List.getElem?_toArray, List.getElem?_cons_succ, List.getElem?_cons_zero]; rfl) (by kernel_rfl) (by kernel_rfl) (by kernel_rfl) (fun _ _ _ h => h) (Or.inl ⟨by rfl, ?ya1⟩) hHeld ?_
    case ya1 => (intro w hSw; go_simp <;> with_reducible rfl)
    simp only [Act.put, List.setIfInBounds_toArray, List.set_cons_zero, List.set_cons_succ]
    refine wpAnyH_take (i := 2) (v := ?va2) (by simp only [List.getElem?_toArray, List.getElem?_cons_succ, List.getElem?_cons_zero]; rfl) (by kernel_rfl) (by kernel_rfl) (by kernel_rfl) (fun _ _ _ h => h) (Or.inl ⟨by rfl, ?ya2⟩) hHeld ?_
    case ya2 => (intro w hSw; go_simp <;> with_reducible rfl)
    simp only [Act.put, List.setIfInBounds_toArray, List.set_cons_zero, List.set_cons_succ]
    refine wpAnyH_take (i := 3) (v := ?va3) (by simp only [List.getElem?_toArray, List.getElem?_cons_succ, List.getElem?_cons_zero]; rfl) (by kernel_rfl) (by kernel_rfl) (by kernel_rfl) (fun _ _ _ h => h) (Or.inl ⟨by rfl, ?ya3⟩) hHeld ?_
    case ya3 => (intro w hSw; go_simp <;> with_reducible rfl)
    simp only [Act.put, List.setIfInBounds_toArray, List.set_cons_zero, List.set_cons_succ]
    refine wpAnyH_take (i := 4) (v := ?va4) (by simp only [List.getElem?_toArray, List.getElem?_cons_succ, List.getElem?_cons_zero]; rfl) (by kernel_rfl) (by kernel_rfl) (by kernel_rfl) (fun _ _ _ h => h) (Or.inl ⟨by rfl, ?ya4⟩) hHeld ?_
    case ya4 => (intro w hSw; obtain ⟨z0, z1, z2, z3, z4⟩ := CL.out w hSw; go_simp <;> with_reducible rfl)
    simp only [Act.put, List.setIfInBounds_toArray, List.set_cons_zero, List.set_cons_succ]
    refine wpAnyH_take (i := 7) (v := ?va7) (by simp only [List.getElem?_toArray, List.getElem?_cons_succ, List.getElem?_cons_zero]; rfl) (by kernel_rfl) (by kernel_rfl) (by kernel_rfl) (fun _ _ _ h => h) (Or.inl ⟨by rfl, ?ya7⟩) hHeld ?_
    case ya7 => (intro w hSw; go_simp <;> with_reducible rfl)
    simp only [Act.put, List.setIfInBounds_toArray, List.set_cons_zero, List.set_cons_succ]
    refine wpAnyH_take (i := 8) (v := ?va8) (by simp only [List.getElem?_toArray, List.getElem?_cons_succ, List.getElem?_cons_zero]; rfl) (by kernel_rfl) (by kernel_rfl) (by kernel_rfl) (fun _ _ _ h => h) (Or.inl ⟨by rfl, ?ya8⟩) hHeld ?_
    case ya8 => (intro w hSw; go_simp <;> with_reducible rfl)
    simp only [Act.put, List.setIfInBounds_toArray, List.set_cons_zero, List.set_cons_succ]
    refine wpAnyH_take (i := 9) (v := ?va9) (by simp only [List.getElem?_toArray, List.getElem?_cons_succ, List.getElem?_cons_zero]; rfl) (by kernel_rfl) (by kernel_rfl) (by kernel_rfl) (fun _ _ _ h => h) (Or.inl ⟨by rfl, ?ya9⟩) hHeld ?_
    case ya9 => (intro w hSw; go_simp <;> with_reducible rfl)
    simp only [Act.put, List.setIfInBounds_toArray, List.set_cons_zero, List.set_cons_succ]
    refine wpAnyH_take (i := 10) (v := ?va10) (by simp only [List.getElem?_toArray, List.getElem?_cons_succ, List.getElem?_cons_zero]; rfl) (by kernel_rfl) (by kernel_rfl) (by kernel_rfl) (fun _ _ _ h => h) (Or.inl ⟨by rfl, ?ya10⟩) hHeld ?_
    case ya10 => (intro w hSw; obtain ⟨z0, z1, z2, z3, z4⟩ := CL.out w hSw; go_simp <;> with_reducible rfl)
    simp only [Act.put, List.setIfInBounds_toArray, List.set_cons_zero, List.set_cons_succ]
    refine wpAnyH_take (i := 12) (v := ?va12) (by simp only [List.getElem?_toArray, List.getElem?_cons_succ, List.getElem?_cons_zero]; rfl) (by kernel_rfl) (by kernel_rfl) (by kernel_rfl) (fun _ _ _ h => h) (Or.inl ⟨by rfl, ?ya12⟩) hHeld ?_
    case ya12 => (intro w hSw; go_simp <;> with_reducible rfl)
    simp only [Act.put, List.setIfInBounds_toArray, List.set_cons_zero, List.set_cons_succ]
    refine wpAnyH_take (i := 13) (v := ?va13) (by simp only [List.getElem?_toArray, List.getElem?_cons_succ, List.getElem?_cons_zero]; rfl) (by kernel_rfl) (by kernel_rfl) (by kernel_rfl) (fun _ _ _ h => h) (Or.inl ⟨by rfl, ?ya13⟩) hHeld ?_
    case ya13 => (intro w hSw; go_simp <;> with_reducible rfl)
    simp only [Act.put, List.setIfInBounds_toArray, List.set_cons_zero, List.set_cons_succ]
    refine wpAnyH_take (i := 14) (v := ?va14) (by simp only [List.getElem?_toArray, List.getElem?_cons_succ, List.getElem?_cons_zero]; rfl) (by kernel_rfl) (by kernel_rfl) (by kernel_rfl) (fun _ _ _ h => h) (Or.inl ⟨by rfl, ?ya14⟩) hHeld ?_
    case ya14 => (intro w hSw; go_simp <;> with_reducible rfl)
    simp only [Act.put, List.setIfInBounds_toArray, List.set_cons_zero, List.set_cons_succ]
    refine wpAnyH_take (i := 15) (v := ?va15) (by simp only [List.getElem?_toArray, List.getElem?_cons_succ, List.getElem?_cons_zero]; rfl) (by kernel_rfl) (by kernel_rfl) (by kernel_rfl) (fun _ _ _ h => h) (Or.inl ⟨by rfl, ?ya15⟩) hHeld ?_
    case ya15 => (intro w hSw; obtain ⟨z0, z1, z2, z3, z4⟩ := CL.out w hSw; go_simp <;> with_reducible rfl)
    simp only [Act.put, List.setIfInBounds_toArray, List.set_cons_zero, List.set_cons_succ]
    refine wpAnyH_take (i := 16) (v := ?va16) (by simp only [List.getElem?_toArray, List.getElem?_cons_succ, List.getElem?_cons_zero]; rfl) (by kernel_rfl) (by kernel_rfl) (by kernel_rfl) (fun _ _ _ h => h) (Or.inl ⟨by rfl, ?ya16⟩) hHeld ?_
    case ya16 => (intro w hSw; go_simp <;> with_reducible rfl)
    simp only [Act.put, List.setIfInBounds_toArray, List.set_cons_zero, List.set_cons_succ]
    refine wpAnyH_take (i := 17) (v := ?va17) (by simp only [List.getElem?_toArray, List.getElem?_cons_succ, List.getElem?_cons_zero]; rfl) (by kernel_rfl) (by kernel_rfl) (by kernel_rfl) (fun _ _ _ h => h) (Or.inl ⟨by rfl, ?ya17⟩) hHeld ?_
    case ya17 => (intro w hSw; go_simp <;> with_reducible rfl)
    simp only [Act.put, List.setIfInBounds_toArray, List.set_cons_zero, List.set_cons_succ]
    refine wpAnyH_take (i := 18) (v := ?va18) (by simp only [List.getElem?_toArray, List.getElem?_cons_succ, List.getElem?_cons_zero]; rfl) (by kernel_rfl) (by kernel_rfl) (by kernel_rfl) (fun _ _ _ h => h) (Or.inl ⟨by rfl, ?ya18⟩) hHeld ?_
    case ya18 => (intro w hSw; go_simp <;> with_reducible rfl)
    simp only [Act.put, List.setIfInBounds_toArray, List.set_cons_zero, List.set_cons_succ]
    refine wpAnyH_take (i := 19) (v := ?va19) (by simp only [List.getElem?_toArray, List.getElem?_cons_succ, List.getElem?_cons_zero]; rfl) (by kernel_rfl) (by kernel_rfl) (by kernel_rfl) (fun _ _ _ h => h) (Or.inl ⟨by rfl, ?ya19⟩) hHeld ?_
    case ya19 => (intro w hSw; obtain ⟨z0, z1, z2, z3, z4⟩ := CL.out w hSw; go_simp <;> with_reducible rfl)
    simp only [Act.put, List.setIfInBounds_toArray, List.set_cons_zero, List.set_cons_succ]
    refine wpAnyH_take (i := 20) (v := ?va20) (by simp only [List.getElem?_toArray, List.getElem?_cons_succ, List.getElem?_cons_zero]; rfl) (by kernel_rfl) (by kernel_rfl) (by kernel_rfl) (fun _ _ _ h => h) (Or.inl ⟨by rfl, ?ya20⟩) hHeld ?_
    case ya20 => (intro w hSw; go_simp <;> with_reducible rfl)
    simp only [Act.put, List.setIfInBounds_toArray, List.set_cons_zero, List.set_cons_succ]
    refine wpAnyH_take (i := 21) (v := ?va21) (by simp only [List.getElem?_toArray, List.getElem?_cons_succ, List.getElem?_cons_zero]; rfl) (by kernel_rfl) (by kernel_rfl) (by kernel_rfl) (fun _ _ _ h => h) (Or.inl ⟨by rfl, ?ya21⟩) hHeld ?_
    case ya21 => (intro w hSw; go_simp <;> with_reducible rfl)
    simp only [Act.put, List.setIfInBounds_toArray, List.set_cons_zero, List.set_cons_succ]
    refine wpAnyH_take (i := 22) (v := ?va22) (by simp only [List.getElem?_toArray, List.getElem?_cons_succ, List.getElem?_cons_zero]; rfl) (by kernel_rfl) (by kernel_rfl) (by kernel_rfl) (fun _ _ _ h => h) (Or.inl ⟨by rfl, ?ya22⟩) hHeld ?_
    case ya22 => (intro w hSw; go_simp <;> with_reducible rfl)
    simp only [Act.put, List.setIfInBounds_toArray, List.set_cons_zero, List.set_cons_succ]
    refine wpAnyH_take (i := 23) (v := ?va23) (by simp only [List.getElem?_toArray, List.getElem?_cons_succ, List.getElem?_cons_zero]; rfl) (by kernel_rfl) (by kernel_rfl) (by kernel_rfl) (fun _ _ _ h => h) (Or.inl ⟨by rfl, ?ya23⟩) hHeld ?_
    case ya23 => (intro w hSw; obtain ⟨z0, z1, z2, z3, z4⟩ := CL.out w hSw; go_simp <;> with_reducible rfl)
    simp only [Act.put, List.setIfInBounds_toArray, List.set_cons_zero, List.set_cons_succ]
    generalize w.drew = w0 at *
    refine wpAnyH_ready (rs := [0, 6]) (by kernel_rfl) (by simp) ?_
    refine AllReadyH.cons (by simp only [List.getElem?_toArray, List.getElem?_cons_zero]; rfl) (fun K hK => ?_) ?_
    · go_simp
      refine hK.out _ _ ?_ (fun hHeld => ?_)
      · exact bal bw_ _
      clear hK K
      have bW1 : Below w.heap.size w ((w0).alloc (.cells #[] 4)) := bal bw_ _
      have oW1A : ((w0).alloc (.cells #[] 4)).ownsRow w.heap.size 4 1 (.slice (some ⟨(w0).heap.size, 0, none⟩) 0 0) 0 [] := own_empty (w0) 4 bw_.size
      have sW1 : (w0).heap.size < ((w0).alloc (.cells #[] 4)).heap.size := by simp
      generalize (w0).alloc (.cells #[] 4) = W1 at *
      generalize hG1 : (w0).heap.size = GA1 at *
      refine wpAnyH_ready (rs := [5, 6]) (by kernel_rfl) (by simp) ?_
      refine AllReadyH.cons (by simp only [List.getElem?_toArray, List.getElem?_cons_succ, List.getElem?_cons_zero]; rfl) (fun K hK => ?_) ?_
      · refine step_lies0 _ (by rfl) _ _ _ (by rfl) w.heap.size 4 i4 _ 1 1 Try.underlying38 HI4.out.1 HI4.out.2.1 HI4.out.2.2.1 HI4.out.2.2.2 rfl (by decide) GA1 0 0 [] (by rfl) oW1A ⟨y.X, 0, none⟩ s.n y.c NA (by rfl) LA.out (CA.out W1 bW1) OA1.out (by unfold maxLen; omega) (by omega) bW1.size ?_
        intro g2 cap2 W2 hown2 hgr2 hat2
        have bW2 : Below w.heap.size w W2 := bW1.grown hgr2 bW1.size (fun j hj => (oW1A.lt j hj).1)
        have oW2A : W2.ownsRow w.heap.size 4 1 (.slice (some ⟨g2, 0, none⟩) s.n cap2) s.n NA := by simpa using hown2
        refine hK.out _ _ ?_ (fun hHeld => ?_)
        · exact bW2
        clear hK K
        refine wpAnyH_ready (rs := [6]) (by kernel_rfl) (by simp) ?_
        refine AllReadyH.cons (by simp only [List.getElem?_toArray, List.getElem?_cons_succ, List.getElem?_cons_zero]; rfl) (fun K hK => ?_) ?_
        rotate_left
        · exact AllReadyH.nil
        go_simp
        refine hK.out _ _ ?_ (fun hHeld => ?_)
        · exact bal bW2 _
        clear hK K
        have bW3 : Below w.heap.size w ((W2).alloc (.cells #[] 32)) := bal bW2 _
        have oW3B : ((W2).alloc (.cells #[] 32)).ownsRow w.heap.size 32 1 (.slice (some ⟨(W2).heap.size, 0, none⟩) 0 0) 0 [] := own_empty (W2) 32 bW2.size
        have oW3A := own_keep2 oW2A (w' := (W2).alloc (.cells #[] 32)) (fun k hk => Below.heap_alloc _ _ k hk)
        have dW3 : g2 ≠ (W2).heap.size := by have := (oW2A.lt g2 rfl).2; omega
        have sW3 : (W2).heap.size < ((W2).alloc (.cells #[] 32)).heap.size := by simp
        generalize (W2).alloc (.cells #[] 32) = W3 at *
        generalize hG3 : (W2).heap.size = GB3 at *
        refine wpAnyH_ready (rs := [11]) (by kernel_rfl) (by simp) ?_
        refine AllReadyH.cons (by simp only [List.getElem?_toArray, List.getElem?_cons_succ, List.getElem?_cons_zero]; rfl) (fun K hK => ?_) ?_
        rotate_left
        · exact AllReadyH.nil
        refine step_lies0 _ (by rfl) _ _ _ (by rfl) w.heap.size 32 i32 _ 1 8 Try.underlying39 HI32.out.1 HI32.out.2.1 HI32.out.2.2.1 HI32.out.2.2.2 rfl (by decide) GB3 0 0 [] (by rfl) oW3B ⟨y.Y, 0, none⟩ s.n y.d NB (by rfl) LB.out (CB.out W3 bW3) OB1.out (by unfold maxLen; omega) (by omega) bW3.size ?_
        intro g4 cap4 W4 hown4 hgr4 hat4
        have bW4 : Below w.heap.size w W4 := bW3.grown hgr4 bW3.size (fun j hj => (oW3B.lt j hj).1)
        have oW4B : W4.ownsRow w.heap.size 32 1 (.slice (some ⟨g4, 0, none⟩) s.n cap4) s.n NB := by simpa using hown4
        have hne4 : GB3 ≠ g2 := by omega
        have oW4A := own_keep oW3A (w' := W4) (fun k hk => hgr4.block k (oW3A.lt k hk).2 (fun e => hne4 ((Option.some.inj e).symm.trans (Option.some.inj hk).symm)))
        have dW4 : g4 ≠ g2 := by have := (oW3A.lt g2 rfl).2; omega
        refine hK.out _ _ ?_ (fun hHeld => ?_)
        · exact bW4
        clear hK K
        refine wpAnyH_take (i := 24) (v := ?vL424) (by simp only [List.getElem?_toArray, List.getElem?_cons_succ, List.getElem?_cons_zero]; rfl) (by kernel_rfl) (by kernel_rfl) (by kernel_rfl) (fun _ _ _ h => h) (Or.inl ⟨by rfl, ?yL424⟩) hHeld ?_
        case yL424 => (intro w hSw; go_simp <;> with_reducible rfl)
        simp only [Act.put, List.setIfInBounds_toArray, List.set_cons_zero, List.set_cons_succ]
        refine wpAnyH_ready (rs := [25]) (by kernel_rfl) (by simp) ?_
        refine AllReadyH.cons (by simp only [List.getElem?_toArray, List.getElem?_cons_succ, List.getElem?_cons_zero]; rfl) (fun K hK => ?_) ?_
        rotate_left
        · exact AllReadyH.nil
        go_simp
        refine hK.out _ _ ?_ (fun hHeld => ?_)
        · exact bal bW4 _
        clear hK K
        refine wpAnyH_take (i := 26) (v := ?vL426) (by simp only [List.getElem?_toArray, List.getElem?_cons_succ, List.getElem?_cons_zero]; rfl) (by kernel_rfl) (by kernel_rfl) (by kernel_rfl) (fun _ _ _ h => h) (Or.inl ⟨by rfl, ?yL426⟩) hHeld ?_
        case yL426 => (intro w hSw; go_simp <;> with_reducible rfl)
        simp only [Act.put, List.setIfInBounds_toArray]
        refine wpAnyH_done (by kernel_rfl) ?_ _
        refine NoPanic.normal ?_
        go_wp2
        go_meet
        exact FIN.out W4 g2 cap2 g4 cap4 bW4 oW4A oW4B (by omega)
      refine AllReadyH.cons (by simp only [List.getElem?_toArray, List.getElem?_cons_succ, List.getElem?_cons_zero]; rfl) (fun K hK => ?_) ?_
      rotate_left
      · exact AllReadyH.nil
      go_simp
      refine hK.out _ _ ?_ (fun hHeld => ?_)
      · exact bal bW1 _
      clear hK K
      have bW5 : Below w.heap.size w ((W1).alloc (.cells #[] 32)) := bal bW1 _
      have oW5B : ((W1).alloc (.cells #[] 32)).ownsRow w.heap.size 32 1 (.slice (some ⟨(W1).heap.size, 0, none⟩) 0 0) 0 [] := own_empty (W1) 32 bW1.size
      have oW5A := own_keep2 oW1A (w' := (W1).alloc (.cells #[] 32)) (fun k hk => Below.heap_alloc _ _ k hk)
      have dW5 : GA1 ≠ (W1).heap.size := by have := (oW1A.lt GA1 rfl).2; omega
      have sW5 : (W1).heap.size < ((W1).alloc (.cells #[] 32)).heap.size := by simp
      generalize (W1).alloc (.cells #[] 32) = W5 at *
      generalize hG5 : (W1).heap.size = GB5 at *
      refine wpAnyH_ready (rs := [5]) (by kernel_rfl) (by simp) ?_
      refine AllReadyH.cons (by simp only [List.getElem?_toArray, List.getElem?_cons_succ, List.getElem?_cons_zero]; rfl) (fun K hK => ?_) ?_
      rotate_left
      · exact AllReadyH.nil
      refine step_lies0 _ (by rfl) _ _ _ (by rfl) w.heap.size 4 i4 _ 1 1 Try.underlying38 HI4.out.1 HI4.out.2.1 HI4.out.2.2.1 HI4.out.2.2.2 rfl (by decide) GA1 0 0 [] (by rfl) oW5A ⟨y.X, 0, none⟩ s.n y.c NA (by rfl) LA.out (CA.out W5 bW5) OA1.out (by unfold maxLen; omega) (by omega) bW5.size ?_
      intro g6 cap6 W6 hown6 hgr6 hat6
      have bW6 : Below w.heap.size w W6 := bW5.grown hgr6 bW5.size (fun j hj => (oW5A.lt j hj).1)
      have oW6A : W6.ownsRow w.heap.size 4 1 (.slice (some ⟨g6, 0, none⟩) s.n cap6) s.n NA := by simpa using hown6
      have hne6 : GA1 ≠ GB5 := by omega
      have oW6B := own_keep oW5B (w' := W6) (fun k hk => hgr6.block k (oW5B.lt k hk).2 (fun e => hne6 ((Option.some.inj e).symm.trans (Option.some.inj hk).symm)))
      have dW6 : g6 ≠ GB5 := by have := (oW5B.lt GB5 rfl).2; omega
      refine hK.out _ _ ?_ (fun hHeld => ?_)
      · exact bW6
      clear hK K
      refine wpAnyH_ready (rs := [11]) (by kernel_rfl) (by simp) ?_
      refine AllReadyH.cons (by simp only [List.getElem?_toArray, List.getElem?_cons_succ, List.getElem?_cons_zero]; rfl) (fun K hK => ?_) ?_
      rotate_left
      · exact AllReadyH.nil
      refine step_lies0 _ (by rfl) _ _ _ (by rfl) w.heap.size 32 i32 _ 1 8 Try.underlying39 HI32.out.1 HI32.out.2.1 HI32.out.2.2.1 HI32.out.2.2.2 rfl (by decide) GB5 0 0 [] (by rfl) oW6B ⟨y.Y, 0, none⟩ s.n y.d NB (by rfl) LB.out (CB.out W6 bW6) OB1.out (by unfold maxLen; omega) (by omega) bW6.size ?_
      intro g7 cap7 W7 hown7 hgr7 hat7
      have bW7 : Below w.heap.size w W7 := bW6.grown hgr7 bW6.size (fun j hj => (oW6B.lt j hj).1)
      have oW7B : W7.ownsRow w.heap.size 32 1 (.slice (some ⟨g7, 0, none⟩) s.n cap7) s.n NB := by simpa using hown7
      have hne7 : GB5 ≠ g6 := by omega
      have oW7A := own_keep oW6A (w' := W7) (fun k hk => hgr7.block k (oW6A.lt k hk).2 (fun e => hne7 ((Option.some.inj e).symm.trans (Option.some.inj hk).symm)))
      have dW7 : g7 ≠ g6 := by have := (oW6A.lt g6 rfl).2; omega
      refine hK.out _ _ ?_ (fun hHeld => ?_)
      · exact bW7
      clear hK K
      refine wpAnyH_take (i := 24) (v := ?vL724) (by simp only [List.getElem?_toArray, List.getElem?_cons_succ, List.getElem?_cons_zero]; rfl) (by kernel_rfl) (by kernel_rfl) (by kernel_rfl) (fun _ _ _ h => h) (Or.inl ⟨by rfl, ?yL724⟩) hHeld ?_
      case yL724 => (intro w hSw; go_simp <;> with_reducible rfl)
      simp only [Act.put, List.setIfInBounds_toArray, List.set_cons_zero, List.set_cons_succ]
      refine wpAnyH_ready (rs := [25]) (by kernel_rfl) (by simp) ?_
      refine AllReadyH.cons (by simp only [List.getElem?_toArray, List.getElem?_cons_succ, List.getElem?_cons_zero]; rfl) (fun K hK => ?_) ?_
      rotate_left
      · exact AllReadyH.nil
      go_simp
      refine hK.out _ _ ?_ (fun hHeld => ?_)
      · exact bal bW7 _
      clear hK K
      refine wpAnyH_take (i := 26) (v := ?vL726) (by simp only [List.getElem?_toArray, List.getElem?_cons_succ, List.getElem?_cons_zero]; rfl) (by kernel_rfl) (by kernel_rfl) (by kernel_rfl) (fun _ _ _ h => h) (Or.inl ⟨by rfl, ?yL726⟩) hHeld ?_
      case yL726 => (intro w hSw; go_simp <;> with_reducible rfl)
      simp only [Act.put, List.setIfInBounds_toArray]
      refine wpAnyH_done (by kernel_rfl) ?_ _
      refine NoPanic.normal ?_
      go_wp2
      go_meet
      exact FIN.out W7 g6 cap6 g7 cap7 bW7 oW7A oW7B (by omega)
    refine AllReadyH.cons (by simp only [List.getElem?_toArray, List.getElem?_cons_succ, List.getElem?_cons_zero]; rfl) (fun K hK => ?_) ?_
    rotate_left
    · exact AllReadyH.nil
    go_simp
    refine hK.out _ _ ?_ (fun hHeld => ?_)
    · exact bal bw_ _
    clear hK K
    have bW8 : Below w.heap.size w ((w0).alloc (.cells #[] 32)) := bal bw_ _
    have oW8B : ((w0).alloc (.cells #[] 32)).ownsRow w.heap.size 32 1 (.slice (some ⟨(w0).heap.size, 0, none⟩) 0 0) 0 [] := own_empty (w0) 32 bw_.size
    have sW8 : (w0).heap.size < ((w0).alloc (.cells #[] 32)).heap.size := by simp
    generalize (w0).alloc (.cells #[] 32) = W8 at *
    generalize hG8 : (w0).heap.size = GB8 at *
    refine wpAnyH_ready (rs := [0]) (by kernel_rfl) (by simp) ?_
    refine AllReadyH.cons (by simp only [List.getElem?_toArray, List.getElem?_cons_zero]; rfl) (fun K hK => ?_) ?_
    rotate_left
    · exact AllReadyH.nil
    go_simp
    refine hK.out _ _ ?_ (fun hHeld => ?_)
    · exact bal bW8 _
    clear hK K
    have bW9 : Below w.heap.size w ((W8).alloc (.cells #[] 4)) := bal bW8 _
    have oW9A : ((W8).alloc (.cells #[] 4)).ownsRow w.heap.size 4 1 (.slice (some ⟨(W8).heap.size, 0, none⟩) 0 0) 0 [] := own_empty (W8) 4 bW8.size
    have oW9B := own_keep2 oW8B (w' := (W8).alloc (.cells #[] 4)) (fun k hk => Below.heap_alloc _ _ k hk)
    have dW9 : (W8).heap.size ≠ GB8 := by have := (oW8B.lt GB8 rfl).2; omega
    have sW9 : (W8).heap.size < ((W8).alloc (.cells #[] 4)).heap.size := by simp
    generalize (W8).alloc (.cells #[] 4) = W9 at *
    generalize hG9 : (W8).heap.size = GA9 at *
    refine wpAnyH_ready (rs := [5]) (by kernel_rfl) (by simp) ?_
    refine AllReadyH.cons (by simp only [List.getElem?_toArray, List.getElem?_cons_succ, List.getElem?_cons_zero]; rfl) (fun K hK => ?_) ?_
    rotate_left
    · exact AllReadyH.nil
    refine step_lies0 _ (by rfl) _ _ _ (by rfl) w.heap.size 4 i4 _ 1 1 Try.underlying38 HI4.out.1 HI4.out.2.1 HI4.out.2.2.1 HI4.out.2.2.2 rfl (by decide) GA9 0 0 [] (by rfl) oW9A ⟨y.X, 0, none⟩ s.n y.c NA (by rfl) LA.out (CA.out W9 bW9) OA1.out (by unfold maxLen; omega) (by omega) bW9.size ?_
    intro g10 cap10 W10 hown10 hgr10 hat10
    have bW10 : Below w.heap.size w W10 := bW9.grown hgr10 bW9.size (fun j hj => (oW9A.lt j hj).1)
    have oW10A : W10.ownsRow w.heap.size 4 1 (.slice (some ⟨g10, 0, none⟩) s.n cap10) s.n NA := by simpa using hown10
    have hne10 : GA9 ≠ GB8 := by omega
    have oW10B := own_keep oW9B (w' := W10) (fun k hk => hgr10.block k (oW9B.lt k hk).2 (fun e => hne10 ((Option.some.inj e).symm.trans (Option.some.inj hk).symm)))
    have dW10 : g10 ≠ GB8 := by have := (oW9B.lt GB8 rfl).2; omega
    refine hK.out _ _ ?_ (fun hHeld => ?_)
    · exact bW10
    clear hK K
    refine wpAnyH_ready (rs := [11]) (by kernel_rfl) (by simp) ?_
    refine AllReadyH.cons (by simp only [List.getElem?_toArray, List.getElem?_cons_succ, List.getElem?_cons_zero]; rfl) (fun K hK => ?_) ?_
    rotate_left
    · exact AllReadyH.nil
    refine step_lies0 _ (by rfl) _ _ _ (by rfl) w.heap.size 32 i32 _ 1 8 Try.underlying39 HI32.out.1 HI32.out.2.1 HI32.out.2.2.1 HI32.out.2.2.2 rfl (by decide) GB8 0 0 [] (by rfl) oW10B ⟨y.Y, 0, none⟩ s.n y.d NB (by rfl) LB.out (CB.out W10 bW10) OB1.out (by unfold maxLen; omega) (by omega) bW10.size ?_
    intro g11 cap11 W11 hown11 hgr11 hat11
    have bW11 : Below w.heap.size w W11 := bW10.grown hgr11 bW10.size (fun j hj => (oW10B.lt j hj).1)
    have oW11B : W11.ownsRow w.heap.size 32 1 (.slice (some ⟨g11, 0, none⟩) s.n cap11) s.n NB := by simpa using hown11
    have hne11 : GB8 ≠ g10 := by omega
    have oW11A := own_keep oW10A (w' := W11) (fun k hk => hgr11.block k (oW10A.lt k hk).2 (fun e => hne11 ((Option.some.inj e).symm.trans (Option.some.inj hk).symm)))
    have dW11 : g11 ≠ g10 := by have := (oW10A.lt g10 rfl).2; omega
    refine hK.out _ _ ?_ (fun hHeld => ?_)
    · exact bW11
    clear hK K
    refine wpAnyH_take (i := 24) (v := ?vL1124) (by simp only [List.getElem?_toArray, List.getElem?_cons_succ, List.getElem?_cons_zero]; rfl) (by kernel_rfl) (by kernel_rfl) (by kernel_rfl) (fun _ _ _ h => h) (Or.inl ⟨by rfl, ?yL1124⟩) hHeld ?_
    case yL1124 => (intro w hSw; go_simp <;> with_reducible rfl)
    simp only [Act.put, List.setIfInBounds_toArray, List.set_cons_zero, List.set_cons_succ]
    refine wpAnyH_ready (rs := [25]) (by kernel_rfl) (by simp) ?_
    refine AllReadyH.cons (by simp only [List.getElem?_toArray, List.getElem?_cons_succ, List.getElem?_cons_zero]; rfl) (fun K hK => ?_) ?_
    rotate_left
    · exact AllReadyH.nil
    go_simp
    refine hK.out _ _ ?_ (fun hHeld => ?_)
    · exact bal bW11 _
    clear hK K
    refine wpAnyH_take (i := 26) (v := ?vL1126) (by simp only [List.getElem?_toArray, List.getElem?_cons_succ, List.getElem?_cons_zero]; rfl) (by kernel_rfl) (by kernel_rfl) (by kernel_rfl) (fun _ _ _ h => h) (Or.inl ⟨by rfl, ?yL1126⟩) hHeld ?_
    case yL1126 => (intro w hSw; go_simp <;> with_reducible rfl)
    simp only [Act.put, List.setIfInBounds_toArray]
    refine wpAnyH_done (by kernel_rfl) ?_ _
    refine NoPanic.normal ?_
    go_wp2
    go_meet
    exact FIN.out W11 g10 cap10 g11 cap11 bW11 oW11A oW11B (by omega)
  case rest =>
    obtain ⟨z, rfl, hz, zL, zX, zY, hb⟩ := hcut
    generalize wc = w3 at *
    have PA := radv_any hz now hp
    rw [adv_cp] at PA
    have HY := Lib.hid (H.out.below hb)
    have B3 := Lib.hid hb
    clear CL CA CB LA LB OA1 OB1 FIN HI4 HI32 bw_ hb
    have PS := Lib.hid (fun (W : World) (hW : Rk W s y) => radv_any hW now hp)
    have hcn : cnt { adv s now with ar := false, rm := 0 } = cnt (adv s now) := cntK_cp (adv s now) (adv s now).n
    generalize adv s now = t at *
    go_wp2_with fail
    refine PA.mono ?_
    clear PA
    rintro e w4 ⟨rfl, hW4, hC4⟩
    have B4 : Hid (Below w.heap.size w w4) := Below.chg B3.out hC4 B3.out.size (fun b hb => by
      rcases hb with hb | hb | hb <;> omega)
    have PC := rcnt_any hW4
    rw [hcn] at PC
    have PC : Calls Try.prog 18 #[.pointer (some ⟨z.L, 0, none⟩)] w4 (PuP w4 (.tuple #[.int .i64 t.ev, .int .i64 (cnt t)])) := PC
    clear hW4 hC4 B3 HY hcn
    generalize hct : cnt t = ct at *
    clear hct
    go_wp2_with fail
    refine PC.mono ?_
    clear PC
    rintro e w5 ⟨rfl, rfl⟩
    have HY := Lib.hid (H.out.below B4.out)
    have CC : Hid (CY y w w4) := Chg.of_below B4.out _
    have FB : Hid (armS s ev now = (s, 17) → RoP w y (armS s ev now).1 (.int .i64 (armS s ev now).2) (.returned (.int .i64 17)) w4) := fun e => by rw [e]; exact ⟨rfl, HY.out, CC.out⟩
    generalize armS s ev now = R at *
    by_cases he : t.ev = ev
    · have q1 : (t.ev != ev) = false := by rw [he]; exact bne_self_eq_false ev
      by_cases h0 : ct = 0
      · have ER := Lib.hid (EY.out ⟨he, h0⟩)
        have q2 : ¬ (0 : Int) < (ct : Int) := by omega
        have PP := PS.out w4 HY.out
        clear EY EB FB B4 he h0
        go_wp2_with fail
        refine PP.mono ?_
        clear PP
        rintro e w6 ⟨rfl, hW6, hC6⟩
        have c5 := hW6.c5
        obtain ⟨rv, c6, -⟩ := hW6.c6
        have f5 := hW6.f y.L (.inl rfl) 5
        have f6 := hW6.f y.L (.inl rfl) 6
        have lL := hW6.lL
        have F : Hid (RoP w y R.1 (.int .i64 R.2) (.returned (.int .i64 0)) ((w6.setCell ⟨y.L, 5, none⟩ (.bool true)).setCell ⟨y.L, 6, none⟩ (.int .i64 ev))) := by
          rw [ER.out]
          exact ⟨rfl, hW6.ar1 ev (((Df.refl w6 _).set y.L 5 _ ⟨rfl, .inl rfl⟩).set y.L 6 _ ⟨rfl, .inr rfl⟩) (set_off _ _ _ _ _ _ (by decide) (set_same _ _ _ _ _ c5)) (set_same _ _ _ _ _ (set_off _ _ _ _ _ _ (by decide) c6)), cy_set (cy_set (CC.out.trans' hC6) y.L 5 _ (.inl rfl)) y.L 6 _ (.inl rfl)⟩
        clear hW6 hC6 ER CC HY PS H
        go_wp2
        go_ret
        exact F.out
      · have F := Lib.hid (FB.out (EB.out (fun e => h0 e.2)))
        have q2 : (0 : Int) < (ct : Int) := by omega
        clear EY EB FB B4 he h0 PS CC HY H
        go_wp2
        go_ret
        exact F.out
    · have F := Lib.hid (FB.out (EB.out (fun e => he e.1)))
      have q1 : (t.ev != ev) = true := by simpa using he
      clear EY EB FB B4 he PS CC HY H
      go_wp2
      go_ret
      exact F.out
set_option maxRecDepth 20000 in
set_option maxHeartbeats 4000000 in
theorem rarm_any (h : Rk w s y) (ev now : Int) : Calls Try.prog 28 #[.pointer (some ⟨y.L, 0, none⟩), .int .i64 ev, .int .u64 now] w (RoP w y (armS s ev now).1 (.int .i64 (armS s ev now).2)) := by
  cases hv : vtB s now with
  | true => exact rarm_yes h ev now hv
  | false =>
    have E0 : armS s ev now = (s, 1) := by unfold armS; rw [hv]; rfl
    have P := Lib.hid (late_any h now)
    rw [hv] at P
    have F : Hid (RoP w y (armS s ev now).1 (.int .i64 (armS s ev now).2) (.returned (.int .i64 1)) w) := by rw [E0]; exact ⟨rfl, h, cy_refl⟩
    generalize armS s ev now = R at *
    clear h hv E0
    go_enter Try.func28, Try.ntmps28
    go_wp2_with fail
    refine P.out.mono ?_
    clear P
    rintro e w2 ⟨rfl, rfl⟩
    go_wp2
    go_ret
    exact F.out
end
end Go.Proofs.Ytmhabdpnakbfpaa
