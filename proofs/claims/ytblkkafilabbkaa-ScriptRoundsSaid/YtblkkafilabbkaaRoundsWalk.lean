/-
  The walk of the law ScriptRounds: whatever two bytes there are, it returns true. Conditions: each number is a byte.
-/
import Derived.Test.YtblkkafilabbkaaKnown
namespace Go.Proofs.Ytblkkafilabbkaa
open Go.RowKit

theorem picks_all (n q : Nat) : picksN (pickL n q) = q := by
  have : ∀ e ∈ pickL n q, decide (e.k = 2) = true := by
    intro e he
    simp only [pickL, List.mem_map] at he
    obtain ⟨k, _, rfl⟩ := he
    rfl
  rw [picksN, List.countP_eq_length.2 this, pickL_length]

set_option maxRecDepth 100000 in
set_option maxHeartbeats 4000000 in
theorem roundsWalk (n m : Int) (hn0 : 0 ≤ n) (hn1 : n ≤ 255) (hm0 : 0 ≤ m) (hm1 : m ≤ 255) (w : World) :
    Calls Try.prog 6 #[.int .u8 n, .int .u8 m] w fun e w' => e = .returned (.bool true) ∧ Below w.heap.size w w' := by
  obtain ⟨t, ht⟩ : ∃ t : Nat, 1 + n % 64 = (t : Int) := ⟨(1 + n % 64).toNat, by omega⟩
  obtain ⟨s, hs⟩ : ∃ s : Nat, 1 + m % 100 = (s : Int) := ⟨(1 + m % 100).toNat, by omega⟩
  have t1 : 1 ≤ t := by omega
  have t2 : t ≤ 64 := by omega
  have s1 : 1 ≤ s := by omega
  have s2 : s ≤ 100 := by omega
  have HT := Lib.hid ht
  have HS := Lib.hid hs
  have hts : t * s ≤ 6400 := Nat.mul_le_mul t2 s2
  clear ht hs
  go_enter Try.func6, Try.ntmps6
  go_upto_region 3 with (fail)
  rw [HT.out, HS.out]
  go_wp2_with fail
  refine (roundsSome _ t s t1 s1 (by omega)).mono ?_
  rintro e w1 ⟨a1, n1, c1, rfl, q1, b1⟩
  have Q1 := Lib.hid q1
  have B1 := Lib.hid b1
  have HN := Lib.hid (show n1 = t * s by have := q1.1; rw [pickL_length] at this; omega)
  clear q1 b1
  have hn : n1 ≤ 6400 := by rw [HN.out]; exact hts
  have hp : (t : Int) * (s : Int) = (n1 : Int) := by rw [HN.out]; simp
  go_wp2_with fail
  have HQ := Lib.hid (show pickL t (t * s) = pickL t n1 by rw [HN.out])
  have HP := Lib.hid (show picksN (pickL t (t * s)) = n1 by rw [HN.out]; exact picks_all t (t * s))
  clear hp
  go_loopw [8] (fun i wr => ∃ k : Nat, k ≤ n1 ∧ i = .int .i64 k ∧ Below w1.heap.size w1 wr) (fun i _ => n1 - (intOf i).toNat)
  case atStart => exact ⟨0, Nat.zero_le _, rfl, Below.refl _ _⟩
  case round =>
    obtain ⟨k, hk, rfl, hbe⟩ := hrel
    have HE := Lib.hid hbe
    by_cases hlt : k < n1
    · obtain ⟨g, off, rfl, l1, h1⟩ := (Q1.out.keep hbe).2 (by omega)
      rw [HQ.out] at h1
      obtain ⟨d1, d2, d3, d4, d5⟩ := h1 k hlt
      have hget : (pickL t n1).getD k default = ⟨2, ((k % t : Nat) : Int), 0, 0, 0⟩ := by simp [pickL, List.getD, hlt]
      rw [hget] at d1 d2 d3 d4 d5
      clear h1 hbe hget
      have i0 : (k : Int) < n1 := by omega
      have t0 : (t : Int) ≠ 0 := by omega
      have hq := @eqEnt
      have hqt : ∀ X : Int, entEq 2 X 0 0 0 2 X 0 0 0 = true := fun X => by simp [entEq]
      go_wp2
      go_quiet (fail)
      go_wp2
      go_roundw
      case rel => exact ⟨k + 1, by omega, by go_num, below_drewN HE.out _⟩
      case measure => simp [intOf]; omega
    · have Q2 := Lib.hid (Q1.out.keep hbe)
      have B2 := Lib.hid (B1.out.trans (hbe.mono B1.out.size))
      clear hbe HE
      go_wp2_with fail
      refine (knownAny _).mono ?_
      rintro e w3 ⟨rfl, b3⟩
      have Q3 := Lib.hid (Q2.out.keep b3)
      have B3 := Lib.hid (B2.out.trans (b3.mono B2.out.size))
      clear b3
      go_wp2_with fail
      refine (picksAny _ _ _ _ _ Q3.out (by omega)).mono ?_
      rintro e w4 ⟨rfl, b4⟩
      have B4 := Lib.hid (B3.out.trans (b4.mono B3.out.size))
      clear b4
      rw [HP.out]
      go_wp2_with fail
      refine (roundsNone _ 0 s (by omega) (.inl (by omega))).mono ?_
      rintro e w5 ⟨a5, n5, c5, rfl, q5, b5⟩
      have B5 := Lib.hid (B4.out.trans (b5.mono B4.out.size))
      obtain rfl : n5 = 0 := by have := q5.1; simpa using this.symm
      clear b5 q5
      go_wp2_with fail
      refine (roundsNone _ t 20001 (by omega) (.inr (.inr (by omega)))).mono ?_
      rintro e w6 ⟨a6, n6, c6, rfl, q6, b6⟩
      have B6 := Lib.hid (B5.out.trans (b6.mono B5.out.size))
      obtain rfl : n6 = 0 := by have := q6.1; simpa using this.symm
      clear b6 q6
      go_wp2
      go_ret
      exact ⟨rfl, B6.out⟩

end Go.Proofs.Ytblkkafilabbkaa
