/- The four runes that are more than themselves in a pattern. -/
import Derived.Lib.Strings
namespace Go.Proofs.YtkfddnkeoopfbaaDoor.GS
def special (r : Int) : Bool := decide (r = 42 ∨ r = 63 ∨ r = 91 ∨ r = 92)
end Go.Proofs.YtkfddnkeoopfbaaDoor.GS
