/-
  What reaperref05.Do tells: as dqL, dqC and dqV say. Conditions: a list of at most a thousand numbers; a kind of 0 to 255.
-/
import Derived.Test.YtikaoikladbdpaaGreatG0216
namespace Go.Proofs.YtikaoikladbdpaaGreat
open Go.RowKit

section
variable {w W w1 : World} {ao : Option Addr} {n cap : Nat} {zs : List Int}

end

end Go.Proofs.YtikaoikladbdpaaGreat
