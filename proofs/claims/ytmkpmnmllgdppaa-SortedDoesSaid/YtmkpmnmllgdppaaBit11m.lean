/-
  A bit of a byte. Conditions: none.
-/
import Derived.Test.YtmkpmnmllgdppaaCoiA11
namespace Go.Proofs.Ytmkpmnmllgdppaa
open Go.RowKit

theorem rem_bit (zs : List Int) (k q : Nat) (hq : q < 8) (z : Int) (hz : z = zs.getD k 0) (z0 : 0 ≤ z) : ((z / 2 ^ q).tmod 2 == 1) = bitAt zs (8 * k + q) := by
  have h : 0 ≤ z / 2 ^ q := Int.ediv_nonneg z0 (Int.le_of_lt (Int.pow_pos (by omega)))
  rw [bitAt, show (8 * k + q) / 8 = k by omega, show (8 * k + q) % 8 = q by omega, ← hz, Int.tmod_eq_emod_of_nonneg h]
  by_cases e : z / 2 ^ q % 2 = 1 <;> simp [e]


end Go.Proofs.Ytmkpmnmllgdppaa
