/- act: one action of a transaction, on the states. -/
import Derived.Test.YtdmbmjnobncgjaaTra
namespace Go.Proofs.Ytdmbmjnobncgjaa
open Go.RowKit

/-- A transaction's content: command, address, data, deadline, state, value. -/
structure TrS where
  cd : Int
  ad : Int
  dt : Int
  dl : Int
  st : Int
  vl : Int
def tcell (t : TrS) (i : Nat) : Value :=
  if i = 0 then .int .u8 t.cd else if i = 1 then .int .u8 t.ad else if i = 2 then .int .u8 t.dt else if i = 3 then .int .u64 t.dl else if i = 4 then .int .i64 t.st else .int .u8 t.vl
structure TrW (w : World) (T : Nat) (t : TrS) : Prop where
  row : w.rowIs T 75 6 (tcell t)
  cd : U8 t.cd
  ad : U8 t.ad
  dt : U8 t.dt
  dl : U64 t.dl
  vl : U8 t.vl
theorem tw_st {w : World} {T : Nat} {t : TrS} (h : TrW w T t) (x : Int) : TrW (w.setCell ⟨T, 4, none⟩ (.int .i64 x)) T { t with st := x } :=
  ⟨(h.row.set 4 _).congr fun i _ => by
    by_cases e : i = 4
    · subst e; simp [tcell]
    · simp [tcell, e], h.cd, h.ad, h.dt, h.dl, h.vl⟩
theorem tw_vl {w : World} {T : Nat} {t : TrS} (h : TrW w T t) (x : Int) (hx : U8 x) : TrW (w.setCell ⟨T, 5, none⟩ (.int .u8 x)) T { t with vl := x } :=
  ⟨(h.row.set 5 _).congr fun i hi => by
    by_cases e : i = 5
    · subst e; simp [tcell]
    · rcases (show i = 0 ∨ i = 1 ∨ i = 2 ∨ i = 3 ∨ i = 4 by omega) with rfl | rfl | rfl | rfl | rfl <;> simp [tcell], h.cd, h.ad, h.dt, h.dl, hx⟩
theorem TrW.grown {w w1 : World} {T L : Nat} {t : TrS} (h : TrW w T t) (g : w.grownBy w1 (some L)) (hne : T ≠ L) : TrW w1 T t :=
  ⟨h.row.of_block (g.block T h.row.lt (fun e => hne (by injection e))), h.cd, h.ad, h.dt, h.dl, h.vl⟩
theorem tw_set {w : World} {T L j : Nat} {v : Value} {s : EcS} (h : EcQ w L s) (hx : s.xq T) (hne : T ≠ L) : EcQ (w.setCell ⟨T, j, none⟩ v) L s := by
  obtain ⟨A, c, k⟩ := h
  have g := g_store w T j v
  refine ⟨A, c, ⟨k.row.of_block (g.block L k.row.lt (fun e => hne (by injection e with e; exact e.symm))), ?_, k.dl, k.ck, k.du, k.reg, k.vl, k.ou, k.cd, k.aa, k.ql, k.qn⟩⟩
  exact k.q.chg (Chg.of_grown g) (fun b _ hn e => by injection e with e; subst e; exact hn hx)
def TL (T L : Nat) (k : Nat) : Prop := k = T ∨ k = L
/-- What a method of a transaction leaves. -/
def AP (w : World) (L T : Nat) (s : EcS) (t : TrS) (v : Value) (e : Ending) (w' : World) : Prop := e = .returned v ∧ EcQ w' L s ∧ TrW w' T t ∧ Chg (TL T L) w w'
theorem tl_g {w w1 : World} {T L : Nat} (g : w.grownBy w1 (some L)) : Chg (TL T L) w w1 := (Chg.of_grown g).mono fun k _ e => .inr (by injection e with e; exact e.symm)
theorem tl_t {w w1 : World} {T L : Nat} (g : w.grownBy w1 (some T)) : Chg (TL T L) w w1 := (Chg.of_grown g).mono fun k _ e => .inl (by injection e with e; exact e.symm)
theorem sStart_xq (s : EcS) (v : Int) : (sStart s v).xq = s.xq ∧ (sStart s v).us = s.us ∧ (sStart s v).ck = s.ck ∧ (sStart s v).dl = s.dl := by
  unfold sStart
  split
  · exact ⟨rfl, rfl, rfl, rfl⟩
  split
  · cases s.ql <;> exact ⟨rfl, rfl, rfl, rfl⟩
  · exact ⟨rfl, rfl, rfl, rfl⟩
theorem sTake_xq (s : EcS) (v : Int) : (sTake s v).xq = s.xq ∧ (sTake s v).us = s.us ∧ (sTake s v).ck = s.ck ∧ (sTake s v).dl = s.dl := by
  unfold sTake
  split
  · exact ⟨rfl, rfl, rfl, rfl⟩
  split
  · split <;> exact ⟨rfl, rfl, rfl, rfl⟩
  · exact ⟨rfl, rfl, rfl, rfl⟩
theorem sAdv_xq (s : EcS) (now : Int) : (sAdv s now).xq = s.xq ∧ (sAdv s now).ck = max s.ck now ∧ (sAdv s now).dl = s.dl := by
  unfold sAdv
  split
  · exact ⟨rfl, rfl, rfl⟩
  split
  · obtain ⟨a, _, c, d⟩ := sStart_xq { s with ck := max s.ck now, us := false } s.vl
    exact ⟨a, c, d⟩
  · obtain ⟨a, _, c, d⟩ := sTake_xq { s with ck := max s.ck now, us := false } s.vl
    exact ⟨a, c, d⟩
theorem sAdv_same (s : EcS) (now : Int) (hu : s.us = false) (hc : now ≤ s.ck) : sAdv s now = s := by
  unfold sAdv
  rw [if_pos (.inl hu), Int.max_eq_left hc]
theorem sAdv_idem (s : EcS) (now : Int) (hu : (sAdv s now).us = false) : sAdv (sAdv s now) now = sAdv s now :=
  sAdv_same _ _ hu (by rw [(sAdv_xq s now).2.1]; omega)
/-- act on the states. -/
def sAct (t : TrS) (s : EcS) (now : Int) : Bool × TrS × EcS :=
  if (sAdv s now).us = true then (false, t, sAdv s now)
  else if t.st = 0 then (if (sAdv s now).un = true then (true, t, { sAdv s now with un := false }) else (true, { t with st := if t.cd = 132 then 3 else 1 }, sWri (sAdv s now) true t.cd))
  else if t.st = 1 then (true, { t with st := if t.cd = 129 then 2 else 3 }, sWri (sAdv s now) false t.ad)
  else if t.st = 2 then (true, { t with st := 4 }, sWri (sAdv s now) false t.dt)
  else if t.st = 3 then (if (sAdv s now).un = true then (true, { t with st := 5, vl := (sAdv s now).ou }, { sAdv s now with un := false }) else (false, t, sAdv s now))
  else if t.st = 4 then (true, { t with st := 5 }, sAdv s now)
  else (true, t, sAdv s now)
theorem stat_lit (s : EcS) (h1 : s.us = true) : sStat s = 2 ∨ sStat s = 3 ∨ sStat s = 34 ∨ sStat s = 35 := by
  unfold sStat; rw [if_pos h1]; by_cases a : s.un = true <;> by_cases b : s.ql = [] <;> simp [a, b]
theorem stat_lit0 (s : EcS) (h1 : s.us = false) (h2 : s.un = false) : sStat s = 0 ∨ sStat s = 32 := by
  unfold sStat; rw [h1, h2]; by_cases b : s.ql = [] <;> simp [b]
theorem stat_lit1 (s : EcS) (h1 : s.us = false) (h2 : s.un = true) : sStat s = 1 ∨ sStat s = 33 := by
  unfold sStat; rw [h1, h2]; by_cases b : s.ql = [] <;> simp [b]
theorem stat_lit2 (s : EcS) (h1 : s.us = false) : sStat s = 0 ∨ sStat s = 32 ∨ sStat s = 1 ∨ sStat s = 33 := by
  by_cases a : s.un = true
  · exact .inr (.inr (stat_lit1 s h1 a))
  · rcases stat_lit0 s h1 (by simpa using a) with h | h
    · exact .inl h
    · exact .inr (.inl h)
set_option maxRecDepth 100000 in
set_option maxHeartbeats 2000000 in
theorem act_busy (w : World) (L T : Nat) (s : EcS) (t : TrS) (now : Int) (h : EcQ w L s) (hn : U64 now) (ht : TrW w T t) (hne : T ≠ L) (hu : (sAdv s now).us = true) :
    Calls Try.prog 42 #[.pointer (some ⟨T, 0, none⟩), .pointer (some ⟨L, 0, none⟩), .int .u64 now] w (AP w L T (sAdv s now) t (.bool false)) := by
  have P := stat_any w L s now h hn
  have hv := stat_lit _ hu
  clear h hu
  generalize sAdv s now = a at *
  generalize sStat a = v at *
  rcases hv with rfl | rfl | rfl | rfl
  all_goals
    go_enter Try.func42, Try.ntmps42
    go_wp2_with fail
    refine P.mono ?_
    rintro e w1 ⟨rfl, k, g⟩
    have K := Lib.hid k
    have G := Lib.hid g
    have TT := Lib.hid ht
    clear P k g ht
    go_wp2
    go_ret
    exact ⟨rfl, K.out, TT.out.grown G.out hne, tl_g G.out⟩
set_option maxRecDepth 100000 in
set_option maxHeartbeats 2000000 in
theorem act_4 (w : World) (L T : Nat) (s : EcS) (t : TrS) (now : Int) (h : EcQ w L s) (hn : U64 now) (ht : TrW w T t) (hne : T ≠ L) (hx : s.xq T) (hu : (sAdv s now).us = false) (hs : t.st = 4) :
    Calls Try.prog 42 #[.pointer (some ⟨T, 0, none⟩), .pointer (some ⟨L, 0, none⟩), .int .u64 now] w (AP w L T (sAdv s now) { t with st := 5 } (.bool true)) := by
  have P := stat_any w L s now h hn
  have hv := stat_lit2 _ hu
  have hx : (sAdv s now).xq T := by rw [(sAdv_xq s now).1]; exact hx
  clear h hu
  generalize sAdv s now = a at *
  generalize sStat a = v at *
  have HS := Lib.hid hs
  clear hs
  rcases hv with rfl | rfl | rfl | rfl
  all_goals
    go_enter Try.func42, Try.ntmps42
    go_wp2_with fail
    refine P.mono ?_
    rintro e w1 ⟨rfl, k, g⟩
    have ht1 := ht.grown g hne
    have c4 : w1.cell? ⟨T, 4, none⟩ = some (.int .i64 4) := by rw [ht1.row.cell (show 4 < 6 by omega)]; show some (Value.int .i64 t.st) = _; rw [HS.out]
    have z4 := ht1.row.frozen 4
    have hT := ht1.row.lt
    have K := Lib.hid k
    have G := Lib.hid g
    have TT := Lib.hid ht1
    clear P k g ht ht1
    go_wp2
    go_ret
    exact ⟨rfl, tw_set K.out hx hne, tw_st TT.out 5, (tl_g G.out).trans (tl_t (g_store w1 T 4 _))⟩
end Go.Proofs.Ytdmbmjnobncgjaa
