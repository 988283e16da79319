/- What the program's four calls of package script say, of the landed code. -/
import Derived.Test.YtmjdamcbdclgpaaQwname
namespace Go.Proofs.Ytmjdamcbdclgpaa
open Go.RowKit

theorem words8 : Words8 := ⟨bytes8_is, picks8_is, fun s w h _ => is8_is s w h, names8_is⟩
end Go.Proofs.Ytmjdamcbdclgpaa
