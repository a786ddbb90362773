/-
  Plain arithmetic of words: the word of a kind and a value, and the way back; no Go function is looked at here.
-/
import Derived.Test.YtmmnmkcjgadhmaaProg
import Derived.WalkKit
import Derived.IntWalk
namespace Go.Proofs.Ytmmnmkcjgadhmaa

/-- The word of a kind and a value. -/
def wd (k v : Int) : Int := 256 * (v + 2147483648) + k + 1
/-- A word's kind, and its value. -/
def kd (n : Int) : Int := (n - 1) % 256
def vl (n : Int) : Int := (n - 1) / 256 - 2147483648

theorem wd_bd {k v : Int} (k0 : 0 ≤ k) (k1 : k ≤ 255) (v0 : -2147483648 ≤ v) (v1 : v ≤ 2147483647) : 1 ≤ wd k v ∧ wd k v ≤ 1099511627776 := by
  unfold wd; omega
theorem kd_wd {k v : Int} (k0 : 0 ≤ k) (k1 : k ≤ 255) : kd (wd k v) = k := by unfold kd wd; omega
theorem vl_wd {k v : Int} (k0 : 0 ≤ k) (k1 : k ≤ 255) : vl (wd k v) = v := by unfold vl wd; omega
theorem wd_back (n : Int) : wd (kd n) (vl n) = n := by unfold wd kd vl; omega
theorem kd_bd (n : Int) : 0 ≤ kd n ∧ kd n ≤ 255 := by unfold kd; omega
theorem vl_bd {n : Int} (h0 : 1 ≤ n) (h1 : n ≤ 1099511627776) : -2147483648 ≤ vl n ∧ vl n ≤ 2147483647 := by unfold vl; omega

/-- The low forty bits of a number are from 0 to 2^40 - 1. -/
theorem mask40 (a : Int) : 0 ≤ bits .and .i64 a 1099511627775 ∧ bits .and .i64 a 1099511627775 ≤ 1099511627775 := by
  have e : bits .and .i64 a 1099511627775 = IntKind.i64.wrap ((BitVec.ofInt 64 a &&& BitVec.ofInt 64 1099511627775).toNat : Nat) := rfl
  have h : (BitVec.ofInt 64 a &&& BitVec.ofInt 64 1099511627775).toNat ≤ 1099511627775 := by
    rw [BitVec.toNat_and]
    exact Nat.le_trans Nat.and_le_right (by decide)
  rw [e, IntWalk.i64_in _ (by omega)]
  omega

end Go.Proofs.Ytmmnmkcjgadhmaa
