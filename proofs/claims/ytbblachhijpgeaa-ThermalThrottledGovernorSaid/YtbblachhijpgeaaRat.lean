/- The reference's at. -/
import Derived.Test.YtbblachhijpgeaaAtl
namespace Go.Proofs.Ytbblachhijpgeaa
open Go.RowKit

theorem own_below {w w' : World} {base n t size : Nat} {v : Value} {xs : List Value} (h : w.ownsRow base t size v n xs) (hb : Below w.heap.size w w') : w'.ownsRow base t size v n xs := own_chg h (Chg.of_below hb (fun _ => False)) (fun _ _ x => x)
end Go.Proofs.Ytbblachhijpgeaa
