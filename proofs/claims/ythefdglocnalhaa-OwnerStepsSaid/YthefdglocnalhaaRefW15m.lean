/-
  Step of reaperref15 at every thread. Conditions: a document's memory of at most 1000 cells; steps below a million.
-/
import Derived.Test.YthefdglocnalhaaRefU15m
import Derived.Test.YthefdglocnalhaaRefT15m
import Derived.Test.YthefdglocnalhaaRefV15m
namespace Go.Proofs.Ythefdglocnalhaa.M2
open Go.RowKit

section
variable {w : World} {B : Nat} {u : Value} {size : Int} {zs : List Int} {st : Int} {t : Th}
theorem refStep (h : w.ownsRow B 2 1 u zs.length (zs.map (Value.int .i64))) (hB : B ≤ w.heap.size) (hz : 0 ≤ size ∧ size ≤ 1000 ∧ (zs.length : Int) ≤ size) (t : Th) (ao : Option Addr) (n cap : Nat) (k0 : 0 ≤ st) (k1 : st < 1000000) :
    Calls Try.prog 22 #[.agg #[.int .i64 size, u, .int .i64 st], thV t (.slice ao n cap)] w (SPost w B u size t (.slice ao n cap) zs st) := by
  have hl : zs.length ≤ 1000 := by omega
  rcases (show t.pc < 1 ∨ (1 ≤ t.pc ∧ 16 < t.pc) ∨ (1 ≤ t.pc ∧ t.pc ≤ 5) ∨ (6 ≤ t.pc ∧ t.pc ≤ 10) ∨ t.pc = 11 ∨ t.pc = 12 ∨ t.pc = 13 ∨ t.pc = 14 ∨ t.pc = 15 ∨ t.pc = 16 by omega) with e | e | e | e | e | e | e | e | e | e
  · exact rst0 h hB hz ao n cap e k0 k1
  · exact rst17 h hB hz ao n cap e k0 k1
  · exact rstP h hB hz ao n cap e k0 k1
  · exact rstL h hB hz ao n cap e k0 k1
  · exact rst11 h hB hl ao n cap e k0 k1
  · exact rst12 h hB hl ao n cap e k0 k1
  · cases hs : swb zs 0 0
    · exact rst13n h hB hl hs ao n cap e k0 k1
    · exact rst13y h hB hl hs ao n cap e k0 k1
  · exact rst14 h hB hl ao n cap e k0 k1
  · exact rst15 h hB hl ao n cap e k0 k1
  · exact rst16 h hB hl ao n cap e k0 k1
end

end Go.Proofs.Ythefdglocnalhaa.M2
