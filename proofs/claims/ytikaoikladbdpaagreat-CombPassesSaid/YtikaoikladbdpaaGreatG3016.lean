/-
  What the document's own Reach (package reaperref14) tells. Conditions: at most 1000 cells. What the document's own Stale (package reaperref14) tells. Conditions: at most 900 cells. What the document's own Sound (package reaperref14) tells. Conditions: at most 900 cells. What the document's own Waiting (package reaperref14) tells. Conditions: at most 900 cells. reaperlaw14.asks answers true, whatever the numbers and the age. Conditions: at most 200 numbers, none above the greatest int64. The chapter's example (reaperlaw14.known) is told. Conditions: none. The walk of ListChain: for all lists of bytes it answers true and leaves all old memory as it was. Cells with one of them another one (reaperlaw14.with), and what is told of cells (reaperlaw14.sound). Conditions: at most 200 numbers.
-/
import Derived.Test.YtikaoikladbdpaaGreatG2916
import Derived.Test.YtikaoikladbdpaaGreatG2816
import Derived.Test.YtikaoikladbdpaaGreatSChn14m
import Derived.Test.YtikaoikladbdpaaGreatG2716
import Derived.Deep.RegionHeld3
import Derived.Deep.CutRange
namespace Go.Proofs.YtikaoikladbdpaaGreat.M2
open Go.RowKit

section
variable {w : World} {B : Nat} {u : Value} {size : Int} {zs : List Int} {st : Int} {ps : List Nat} {lost : Bool}

end

end Go.Proofs.YtikaoikladbdpaaGreat.M2
namespace Go.Proofs.YtikaoikladbdpaaGreat.M2
open Go.RowKit

section
variable {w : World} {B : Nat} {u : Value} {size : Int} {zs : List Int} {st : Int} {ps : List Nat} {lost : Bool}

end

end Go.Proofs.YtikaoikladbdpaaGreat.M2
namespace Go.Proofs.YtikaoikladbdpaaGreat.M2
open Go.RowKit

section
variable {w : World} {B : Nat} {u : Value} {size : Int} {zs : List Int} {st : Int} {ps : List Nat} {lost : Bool}

end

end Go.Proofs.YtikaoikladbdpaaGreat.M2
namespace Go.Proofs.YtikaoikladbdpaaGreat.M2
open Go.RowKit

section
variable {w : World} {B : Nat} {u : Value} {size : Int} {zs : List Int} {st : Int} {ps : List Nat} {lost : Bool}

end

end Go.Proofs.YtikaoikladbdpaaGreat.M2
namespace Go.Proofs.YtikaoikladbdpaaGreat.M2
open Go.RowKit

structure ST (w : World) (n p : Nat) (u : Value) (zs : List Int) (g : Nat) (W : World) : Prop where
  m : Mem1 W w.heap.size p zs.length zs (1 + (zs.length : Int))
  o : W.ownsRow w.heap.size 2 1 u zs.length (zs.map (Value.int .i64))
  r : Boxed W g (.int .i64 (n : Int)) u (.int .i64 (1 + (n : Int)))
  b : Below w.heap.size w W

end Go.Proofs.YtikaoikladbdpaaGreat.M2
namespace Go.Proofs.YtikaoikladbdpaaGreat.M2
open Go.RowKit

end Go.Proofs.YtikaoikladbdpaaGreat.M2
namespace Go.Proofs.YtikaoikladbdpaaGreat.M2
open Go.RowKit

theorem VR.reads {W : World} {g : Nat} {vs : List Int} (h : VR W g vs) : Reads .i64 W (some ⟨g, 0, none⟩) vs.length vs :=
  ⟨rfl, fun _ => ⟨g, 0, rfl, h.lt, fun i hi => by rw [Nat.zero_add]; exact h.cell hi⟩⟩

end Go.Proofs.YtikaoikladbdpaaGreat.M2
namespace Go.Proofs.YtikaoikladbdpaaGreat.M2
open Go.RowKit

end Go.Proofs.YtikaoikladbdpaaGreat.M2
