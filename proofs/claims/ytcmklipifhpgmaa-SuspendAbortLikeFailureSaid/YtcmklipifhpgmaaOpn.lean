/- The arguments: slices of numbers. -/
import Derived.Test.YtcmklipifhpgmaaBas
namespace Go.Proofs.Ytcmklipifhpgmaa
open Go.ChangeShapes Go.WideShapes Go.ChangeAt Go.RowKit Go.Deep Go.Joins

theorem ns_fl {w : World} {a : Option Addr} {len : Nat} {g : Nat → Int} (hg : Ns .i64 w a len g) : Fl w a 1 len (eV g) := by
  refine ⟨hg.len, ?_⟩
  rcases hg.row with h0 | ⟨b, off, hA, hlt, hc⟩
  · exact .inl h0
  · exact .inr ⟨b, off, hA, hlt, fun j hj => hc j (by omega)⟩
theorem open_nums {H : Type} {enc : TypeId × Value → H} {w : World} {a : Option Addr} {len cap : Nat} {d : DataW H} {p : List MemPlace}
    (h : DataW.Trod enc Try.prog w 0 (fun _ => true) true 22 (.slice a len cap) d p) : ∃ g, Fl w a 1 len (eV g) := by
  obtain ⟨g, hg, _, _⟩ := open_ns (K := .i64) Try.underlying22 Try.underlying3 (by kernel_rfl) h
  exact ⟨g, ns_fl hg⟩
theorem open_errs {H : Type} {enc : TypeId × Value → H} {w : World} {a : Option Addr} {len cap : Nat} {d : DataW H} {p : List MemPlace}
    (h : DataW.Trod enc Try.prog w 0 (fun _ => true) true 23 (.slice a len cap) d p) : ∃ g, Fl w a 1 len (eV g) := by
  obtain ⟨g, hg, _, _⟩ := open_ns (K := .i64) Try.underlying23 Try.underlying24 (by kernel_rfl) h
  exact ⟨g, ns_fl hg⟩
end Go.Proofs.Ytcmklipifhpgmaa
