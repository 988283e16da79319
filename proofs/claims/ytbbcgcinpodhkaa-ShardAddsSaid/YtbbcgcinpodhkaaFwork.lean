/- The program's four calls of package shard say what the laws' walks ask. -/
import Derived.Test.YtbbcgcinpodhkaaFwadd
import Derived.Test.YtbbcgcinpodhkaaFwsum
namespace Go.Proofs.Ytbbcgcinpodhkaa
open Go.RowKit
theorem words11 : Words11 :=
  ⟨new11_is, fun A c rs w h => (is11_is A c rs w h).mono fun _ _ k => ⟨k.1, k.2 ▸ Below.refl _ _⟩, add11_is, sum11_is⟩
end Go.Proofs.Ytbbcgcinpodhkaa
