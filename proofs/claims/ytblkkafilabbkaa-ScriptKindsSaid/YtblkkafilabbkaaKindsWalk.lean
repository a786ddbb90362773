/-
  The walk of the law ScriptKinds: whatever five bytes there are, it returns true. Conditions: each number is a byte.
-/
import Derived.Test.YtblkkafilabbkaaKnown
import Derived.Laws.BitsAllLaws
namespace Go.Proofs.Ytblkkafilabbkaa
open Go.RowKit

/-- Two bytes, bit by bit. -/
theorem xor_byte (a x : Int) (ha : 0 ≤ a ∧ a ≤ 255) (hx : 0 ≤ x ∧ x ≤ 255) : 0 ≤ bits .xor .u8 a x ∧ bits .xor .u8 a x ≤ 255 := by
  rw [u8_xor a x ha.1 (by omega) hx.1 (by omega)]
  have : a.toNat ^^^ x.toNat < 2 ^ 8 := Nat.xor_lt_two_pow (by omega) (by omega)
  omega

theorem xor_same (a x : Int) (ha : 0 ≤ a ∧ a ≤ 255) (h : x = 0) : bits .xor .u8 a x = a := by
  subst h
  rw [u8_xor a 0 ha.1 (by omega) (by omega) (by omega)]
  simp
  omega

theorem xor_other (a x : Int) (ha : 0 ≤ a ∧ a ≤ 255) (hx : 0 ≤ x ∧ x ≤ 255) (h : x ≠ 0) : bits .xor .u8 a x ≠ a := by
  rw [u8_xor a x ha.1 (by omega) hx.1 (by omega)]
  intro e
  have e1 : a.toNat ^^^ x.toNat = a.toNat := by omega
  have e2 : a.toNat ^^^ (a.toNat ^^^ x.toNat) = a.toNat ^^^ a.toNat := by rw [e1]
  rw [← Nat.xor_assoc, Nat.xor_self, Nat.zero_xor] at e2
  omega

theorem decL4 (k a b c : Int) : decL [k, a, b, c] = [dec k a b c] := by
  rw [decL, show [k, a, b, c].length / 4 = 1 by simp]
  rfl

theorem four_bytes (k a b c : Int) (hk : 0 ≤ k ∧ k ≤ 255) (ha : 0 ≤ a ∧ a ≤ 255) (hb : 0 ≤ b ∧ b ≤ 255) (hc : 0 ≤ c ∧ c ≤ 255) : ∀ z ∈ [k, a, b, c], 0 ≤ z ∧ z ≤ 255 := by
  intro z hz
  simp only [List.mem_cons, List.not_mem_nil, or_false] at hz
  rcases hz with rfl | rfl | rfl | rfl <;> assumption

set_option maxRecDepth 100000 in
set_option maxHeartbeats 4000000 in
theorem kinds1z (a b c x : Int) (w : World) (ha : 0 ≤ a ∧ a ≤ 255) (hb : 0 ≤ b ∧ b ≤ 255) (hc : 0 ≤ c ∧ c ≤ 255) (hx : 0 ≤ x ∧ x ≤ 255) (hz : x = 0) :
    Calls Try.prog 8 #[.int .u8 1, .int .u8 a, .int .u8 b, .int .u8 c, .int .u8 x] w fun e w' => e = .returned (.bool true) ∧ Below w.heap.size w w' := by
  have HA := Lib.hid ha
  have HB := Lib.hid hb
  have HC := Lib.hid hc
  have HK := Lib.hid (show 0 ≤ (1 : Int) ∧ (1 : Int) ≤ 255 by omega)
  have HXA := Lib.hid (xor_byte a x ha hx)
  have HXB := Lib.hid (xor_byte b x hb hx)
  have HXC := Lib.hid (xor_byte c x hc hx)
  have D1 := Lib.hid (show decide (decL [1, a, b, c] = decL [1, bits .xor .u8 a x, b, c]) = true by rw [xor_same a x ha hz]; exact decide_eq_true rfl)
  have D2 := Lib.hid (show decide (decL [1, a, b, c] = decL [1, a, bits .xor .u8 b x, c]) = true by rw [xor_same b x hb hz]; exact decide_eq_true rfl)
  have D3 := Lib.hid (show decide (decL [1, a, b, c] = decL [1, a, b, bits .xor .u8 c x]) = true by rw [xor_same c x hc hz]; exact decide_eq_true rfl)
  have hxz : (x == 0) = true := by simp [hz]
  clear ha hb hc hx hz
  go_enter Try.func8, Try.ntmps8
  go_wp2_with fail
  refine (decodeAny _ _ 4 4 _ (reads_new w [1, a, b, c]) (four_bytes _ _ _ _ HK.out HA.out HB.out HC.out) (by omega) (by omega)).mono ?_
  rintro e w1 ⟨a1, n1, c1, rfl, s1, b1⟩
  have S1 := Lib.hid s1
  have E1 := Lib.hid ((Below.refl _ w).alloc (Nat.le_refl _) _ |>.trans (b1.mono (by simp)))
  have B1 := Lib.hid E1.out
  obtain rfl : n1 = 1 := by have := s1.1; rw [decL_length] at this; simp at this; omega
  clear s1 b1
  go_wp2_with fail
  refine (decodeAny _ _ 4 4 _ (reads_new w1 [1, bits .xor .u8 a x, b, c]) (four_bytes _ _ _ _ HK.out HXA.out HB.out HC.out) (by omega) (by omega)).mono ?_
  rintro e w2 ⟨a2, n2, c2, rfl, s2, b2⟩
  have S2 := Lib.hid s2
  have E2 := Lib.hid ((Below.refl _ w1).alloc (Nat.le_refl _) _ |>.trans (b2.mono (by simp)))
  have B2 := Lib.hid (B1.out.trans (E2.out.mono B1.out.size))
  obtain rfl : n2 = 1 := by have := s2.1; rw [decL_length] at this; simp at this; omega
  clear s2 b2
  go_wp2_with fail
  refine (decodeAny _ _ 4 4 _ (reads_new w2 [1, a, bits .xor .u8 b x, c]) (four_bytes _ _ _ _ HK.out HA.out HXB.out HC.out) (by omega) (by omega)).mono ?_
  rintro e w3 ⟨a3, n3, c3, rfl, s3, b3⟩
  have S3 := Lib.hid s3
  have E3 := Lib.hid ((Below.refl _ w2).alloc (Nat.le_refl _) _ |>.trans (b3.mono (by simp)))
  have B3 := Lib.hid (B2.out.trans (E3.out.mono B2.out.size))
  obtain rfl : n3 = 1 := by have := s3.1; rw [decL_length] at this; simp at this; omega
  clear s3 b3
  go_wp2_with fail
  refine (decodeAny _ _ 4 4 _ (reads_new w3 [1, a, b, bits .xor .u8 c x]) (four_bytes _ _ _ _ HK.out HA.out HB.out HXC.out) (by omega) (by omega)).mono ?_
  rintro e w4 ⟨a4, n4, c4, rfl, s4, b4⟩
  have S4 := Lib.hid s4
  have E4 := Lib.hid ((Below.refl _ w3).alloc (Nat.le_refl _) _ |>.trans (b4.mono (by simp)))
  have B4 := Lib.hid (B3.out.trans (E4.out.mono B3.out.size))
  obtain rfl : n4 = 1 := by have := s4.1; rw [decL_length] at this; simp at this; omega
  clear s4 b4
  go_wp2_with fail
  refine (knownAny _).mono ?_
  rintro e w5 ⟨rfl, b5⟩
  have E5 := Lib.hid b5
  have B5 := Lib.hid (B4.out.trans (b5.mono B4.out.size))
  clear b5
  have P6 := Lib.hid ((((S1.out.keep E2.out).keep E3.out).keep E4.out).keep E5.out)
  have Q6_2 := Lib.hid (((S2.out.keep E3.out).keep E4.out).keep E5.out)
  go_wp2_with fail
  refine (sameAny _ _ _ 1 1 _ _ _ _ P6.out Q6_2.out (by omega) (by omega)).mono ?_
  rintro e w6 ⟨rfl, b6⟩
  have E6 := Lib.hid b6
  have B6 := Lib.hid (B5.out.trans (b6.mono B5.out.size))
  clear b6
  rw [D1.out]
  have P7 := Lib.hid (P6.out.keep E6.out)
  have Q7_3 := Lib.hid (((S3.out.keep E4.out).keep E5.out).keep E6.out)
  go_wp2_with fail
  refine (sameAny _ _ _ 1 1 _ _ _ _ P7.out Q7_3.out (by omega) (by omega)).mono ?_
  rintro e w7 ⟨rfl, b7⟩
  have E7 := Lib.hid b7
  have B7 := Lib.hid (B6.out.trans (b7.mono B6.out.size))
  clear b7
  rw [D2.out]
  have P8 := Lib.hid (P7.out.keep E7.out)
  have Q8_4 := Lib.hid (((S4.out.keep E5.out).keep E6.out).keep E7.out)
  go_wp2_with fail
  refine (sameAny _ _ _ 1 1 _ _ _ _ P8.out Q8_4.out (by omega) (by omega)).mono ?_
  rintro e w8 ⟨rfl, b8⟩
  have E8 := Lib.hid b8
  have B8 := Lib.hid (B7.out.trans (b8.mono B7.out.size))
  clear b8
  rw [D3.out]
  go_wp2
  go_ret
  exact ⟨rfl, B8.out⟩

set_option maxRecDepth 100000 in
set_option maxHeartbeats 4000000 in
theorem kinds1n (a b c x : Int) (w : World) (ha : 0 ≤ a ∧ a ≤ 255) (hb : 0 ≤ b ∧ b ≤ 255) (hc : 0 ≤ c ∧ c ≤ 255) (hx : 0 ≤ x ∧ x ≤ 255) (hz : x ≠ 0) :
    Calls Try.prog 8 #[.int .u8 1, .int .u8 a, .int .u8 b, .int .u8 c, .int .u8 x] w fun e w' => e = .returned (.bool true) ∧ Below w.heap.size w w' := by
  have HA := Lib.hid ha
  have HB := Lib.hid hb
  have HC := Lib.hid hc
  have HK := Lib.hid (show 0 ≤ (1 : Int) ∧ (1 : Int) ≤ 255 by omega)
  have HXA := Lib.hid (xor_byte a x ha hx)
  have HXB := Lib.hid (xor_byte b x hb hx)
  have HXC := Lib.hid (xor_byte c x hc hx)
  have D1 := Lib.hid (show decide (decL [1, a, b, c] = decL [1, bits .xor .u8 a x, b, c]) = false by exact decide_eq_false (fun e => xor_other a x ha hx hz (by simp [decL4, dec] at e; exact e.symm)))
  have D2 := Lib.hid (show decide (decL [1, a, b, c] = decL [1, a, bits .xor .u8 b x, c]) = false by exact decide_eq_false (fun e => xor_other b x hb hx hz (by simp [decL4, dec] at e; exact e.symm)))
  have D3 := Lib.hid (show decide (decL [1, a, b, c] = decL [1, a, b, bits .xor .u8 c x]) = false by exact decide_eq_false (fun e => xor_other c x hc hx hz (by simp [decL4, dec] at e; exact e.symm)))
  have hxz : (x == 0) = false := by simp [hz]
  clear ha hb hc hx hz
  go_enter Try.func8, Try.ntmps8
  go_wp2_with fail
  refine (decodeAny _ _ 4 4 _ (reads_new w [1, a, b, c]) (four_bytes _ _ _ _ HK.out HA.out HB.out HC.out) (by omega) (by omega)).mono ?_
  rintro e w1 ⟨a1, n1, c1, rfl, s1, b1⟩
  have S1 := Lib.hid s1
  have E1 := Lib.hid ((Below.refl _ w).alloc (Nat.le_refl _) _ |>.trans (b1.mono (by simp)))
  have B1 := Lib.hid E1.out
  obtain rfl : n1 = 1 := by have := s1.1; rw [decL_length] at this; simp at this; omega
  clear s1 b1
  go_wp2_with fail
  refine (decodeAny _ _ 4 4 _ (reads_new w1 [1, bits .xor .u8 a x, b, c]) (four_bytes _ _ _ _ HK.out HXA.out HB.out HC.out) (by omega) (by omega)).mono ?_
  rintro e w2 ⟨a2, n2, c2, rfl, s2, b2⟩
  have S2 := Lib.hid s2
  have E2 := Lib.hid ((Below.refl _ w1).alloc (Nat.le_refl _) _ |>.trans (b2.mono (by simp)))
  have B2 := Lib.hid (B1.out.trans (E2.out.mono B1.out.size))
  obtain rfl : n2 = 1 := by have := s2.1; rw [decL_length] at this; simp at this; omega
  clear s2 b2
  go_wp2_with fail
  refine (decodeAny _ _ 4 4 _ (reads_new w2 [1, a, bits .xor .u8 b x, c]) (four_bytes _ _ _ _ HK.out HA.out HXB.out HC.out) (by omega) (by omega)).mono ?_
  rintro e w3 ⟨a3, n3, c3, rfl, s3, b3⟩
  have S3 := Lib.hid s3
  have E3 := Lib.hid ((Below.refl _ w2).alloc (Nat.le_refl _) _ |>.trans (b3.mono (by simp)))
  have B3 := Lib.hid (B2.out.trans (E3.out.mono B2.out.size))
  obtain rfl : n3 = 1 := by have := s3.1; rw [decL_length] at this; simp at this; omega
  clear s3 b3
  go_wp2_with fail
  refine (decodeAny _ _ 4 4 _ (reads_new w3 [1, a, b, bits .xor .u8 c x]) (four_bytes _ _ _ _ HK.out HA.out HB.out HXC.out) (by omega) (by omega)).mono ?_
  rintro e w4 ⟨a4, n4, c4, rfl, s4, b4⟩
  have S4 := Lib.hid s4
  have E4 := Lib.hid ((Below.refl _ w3).alloc (Nat.le_refl _) _ |>.trans (b4.mono (by simp)))
  have B4 := Lib.hid (B3.out.trans (E4.out.mono B3.out.size))
  obtain rfl : n4 = 1 := by have := s4.1; rw [decL_length] at this; simp at this; omega
  clear s4 b4
  go_wp2_with fail
  refine (knownAny _).mono ?_
  rintro e w5 ⟨rfl, b5⟩
  have E5 := Lib.hid b5
  have B5 := Lib.hid (B4.out.trans (b5.mono B4.out.size))
  clear b5
  have P6 := Lib.hid ((((S1.out.keep E2.out).keep E3.out).keep E4.out).keep E5.out)
  have Q6_2 := Lib.hid (((S2.out.keep E3.out).keep E4.out).keep E5.out)
  go_wp2_with fail
  refine (sameAny _ _ _ 1 1 _ _ _ _ P6.out Q6_2.out (by omega) (by omega)).mono ?_
  rintro e w6 ⟨rfl, b6⟩
  have E6 := Lib.hid b6
  have B6 := Lib.hid (B5.out.trans (b6.mono B5.out.size))
  clear b6
  rw [D1.out]
  have P7 := Lib.hid (P6.out.keep E6.out)
  have Q7_3 := Lib.hid (((S3.out.keep E4.out).keep E5.out).keep E6.out)
  go_wp2_with fail
  refine (sameAny _ _ _ 1 1 _ _ _ _ P7.out Q7_3.out (by omega) (by omega)).mono ?_
  rintro e w7 ⟨rfl, b7⟩
  have E7 := Lib.hid b7
  have B7 := Lib.hid (B6.out.trans (b7.mono B6.out.size))
  clear b7
  rw [D2.out]
  have P8 := Lib.hid (P7.out.keep E7.out)
  have Q8_4 := Lib.hid (((S4.out.keep E5.out).keep E6.out).keep E7.out)
  go_wp2_with fail
  refine (sameAny _ _ _ 1 1 _ _ _ _ P8.out Q8_4.out (by omega) (by omega)).mono ?_
  rintro e w8 ⟨rfl, b8⟩
  have E8 := Lib.hid b8
  have B8 := Lib.hid (B7.out.trans (b8.mono B7.out.size))
  clear b8
  rw [D3.out]
  go_wp2
  go_ret
  exact ⟨rfl, B8.out⟩

set_option maxRecDepth 100000 in
set_option maxHeartbeats 4000000 in
theorem kinds2z (a b c x : Int) (w : World) (ha : 0 ≤ a ∧ a ≤ 255) (hb : 0 ≤ b ∧ b ≤ 255) (hc : 0 ≤ c ∧ c ≤ 255) (hx : 0 ≤ x ∧ x ≤ 255) (hz : x = 0) :
    Calls Try.prog 8 #[.int .u8 2, .int .u8 a, .int .u8 b, .int .u8 c, .int .u8 x] w fun e w' => e = .returned (.bool true) ∧ Below w.heap.size w w' := by
  have HA := Lib.hid ha
  have HB := Lib.hid hb
  have HC := Lib.hid hc
  have HK := Lib.hid (show 0 ≤ (2 : Int) ∧ (2 : Int) ≤ 255 by omega)
  have HXA := Lib.hid (xor_byte a x ha hx)
  have HXB := Lib.hid (xor_byte b x hb hx)
  have HXC := Lib.hid (xor_byte c x hc hx)
  have D1 := Lib.hid (show decide (decL [2, a, b, c] = decL [2, bits .xor .u8 a x, b, c]) = true by rw [xor_same a x ha hz]; exact decide_eq_true rfl)
  have D2 := Lib.hid (show decide (decL [2, a, b, c] = decL [2, a, bits .xor .u8 b x, c]) = true by rw [xor_same b x hb hz]; exact decide_eq_true rfl)
  have D3 := Lib.hid (show decide (decL [2, a, b, c] = decL [2, a, b, bits .xor .u8 c x]) = true by rw [xor_same c x hc hz]; exact decide_eq_true rfl)
  have hxz : (x == 0) = true := by simp [hz]
  clear ha hb hc hx hz
  go_enter Try.func8, Try.ntmps8
  go_wp2_with fail
  refine (decodeAny _ _ 4 4 _ (reads_new w [2, a, b, c]) (four_bytes _ _ _ _ HK.out HA.out HB.out HC.out) (by omega) (by omega)).mono ?_
  rintro e w1 ⟨a1, n1, c1, rfl, s1, b1⟩
  have S1 := Lib.hid s1
  have E1 := Lib.hid ((Below.refl _ w).alloc (Nat.le_refl _) _ |>.trans (b1.mono (by simp)))
  have B1 := Lib.hid E1.out
  obtain rfl : n1 = 1 := by have := s1.1; rw [decL_length] at this; simp at this; omega
  clear s1 b1
  go_wp2_with fail
  refine (decodeAny _ _ 4 4 _ (reads_new w1 [2, bits .xor .u8 a x, b, c]) (four_bytes _ _ _ _ HK.out HXA.out HB.out HC.out) (by omega) (by omega)).mono ?_
  rintro e w2 ⟨a2, n2, c2, rfl, s2, b2⟩
  have S2 := Lib.hid s2
  have E2 := Lib.hid ((Below.refl _ w1).alloc (Nat.le_refl _) _ |>.trans (b2.mono (by simp)))
  have B2 := Lib.hid (B1.out.trans (E2.out.mono B1.out.size))
  obtain rfl : n2 = 1 := by have := s2.1; rw [decL_length] at this; simp at this; omega
  clear s2 b2
  go_wp2_with fail
  refine (decodeAny _ _ 4 4 _ (reads_new w2 [2, a, bits .xor .u8 b x, c]) (four_bytes _ _ _ _ HK.out HA.out HXB.out HC.out) (by omega) (by omega)).mono ?_
  rintro e w3 ⟨a3, n3, c3, rfl, s3, b3⟩
  have S3 := Lib.hid s3
  have E3 := Lib.hid ((Below.refl _ w2).alloc (Nat.le_refl _) _ |>.trans (b3.mono (by simp)))
  have B3 := Lib.hid (B2.out.trans (E3.out.mono B2.out.size))
  obtain rfl : n3 = 1 := by have := s3.1; rw [decL_length] at this; simp at this; omega
  clear s3 b3
  go_wp2_with fail
  refine (decodeAny _ _ 4 4 _ (reads_new w3 [2, a, b, bits .xor .u8 c x]) (four_bytes _ _ _ _ HK.out HA.out HB.out HXC.out) (by omega) (by omega)).mono ?_
  rintro e w4 ⟨a4, n4, c4, rfl, s4, b4⟩
  have S4 := Lib.hid s4
  have E4 := Lib.hid ((Below.refl _ w3).alloc (Nat.le_refl _) _ |>.trans (b4.mono (by simp)))
  have B4 := Lib.hid (B3.out.trans (E4.out.mono B3.out.size))
  obtain rfl : n4 = 1 := by have := s4.1; rw [decL_length] at this; simp at this; omega
  clear s4 b4
  go_wp2_with fail
  refine (knownAny _).mono ?_
  rintro e w5 ⟨rfl, b5⟩
  have E5 := Lib.hid b5
  have B5 := Lib.hid (B4.out.trans (b5.mono B4.out.size))
  clear b5
  have P6 := Lib.hid ((((S1.out.keep E2.out).keep E3.out).keep E4.out).keep E5.out)
  have Q6_2 := Lib.hid (((S2.out.keep E3.out).keep E4.out).keep E5.out)
  go_wp2_with fail
  refine (sameAny _ _ _ 1 1 _ _ _ _ P6.out Q6_2.out (by omega) (by omega)).mono ?_
  rintro e w6 ⟨rfl, b6⟩
  have E6 := Lib.hid b6
  have B6 := Lib.hid (B5.out.trans (b6.mono B5.out.size))
  clear b6
  rw [D1.out]
  have P7 := Lib.hid (P6.out.keep E6.out)
  have Q7_3 := Lib.hid (((S3.out.keep E4.out).keep E5.out).keep E6.out)
  go_wp2_with fail
  refine (sameAny _ _ _ 1 1 _ _ _ _ P7.out Q7_3.out (by omega) (by omega)).mono ?_
  rintro e w7 ⟨rfl, b7⟩
  have E7 := Lib.hid b7
  have B7 := Lib.hid (B6.out.trans (b7.mono B6.out.size))
  clear b7
  rw [D2.out]
  have P8 := Lib.hid (P7.out.keep E7.out)
  have Q8_4 := Lib.hid (((S4.out.keep E5.out).keep E6.out).keep E7.out)
  go_wp2_with fail
  refine (sameAny _ _ _ 1 1 _ _ _ _ P8.out Q8_4.out (by omega) (by omega)).mono ?_
  rintro e w8 ⟨rfl, b8⟩
  have E8 := Lib.hid b8
  have B8 := Lib.hid (B7.out.trans (b8.mono B7.out.size))
  clear b8
  rw [D3.out]
  go_wp2
  go_ret
  exact ⟨rfl, B8.out⟩

set_option maxRecDepth 100000 in
set_option maxHeartbeats 4000000 in
theorem kinds2n (a b c x : Int) (w : World) (ha : 0 ≤ a ∧ a ≤ 255) (hb : 0 ≤ b ∧ b ≤ 255) (hc : 0 ≤ c ∧ c ≤ 255) (hx : 0 ≤ x ∧ x ≤ 255) (hz : x ≠ 0) :
    Calls Try.prog 8 #[.int .u8 2, .int .u8 a, .int .u8 b, .int .u8 c, .int .u8 x] w fun e w' => e = .returned (.bool true) ∧ Below w.heap.size w w' := by
  have HA := Lib.hid ha
  have HB := Lib.hid hb
  have HC := Lib.hid hc
  have HK := Lib.hid (show 0 ≤ (2 : Int) ∧ (2 : Int) ≤ 255 by omega)
  have HXA := Lib.hid (xor_byte a x ha hx)
  have HXB := Lib.hid (xor_byte b x hb hx)
  have HXC := Lib.hid (xor_byte c x hc hx)
  have D1 := Lib.hid (show decide (decL [2, a, b, c] = decL [2, bits .xor .u8 a x, b, c]) = false by exact decide_eq_false (fun e => xor_other a x ha hx hz (by simp [decL4, dec] at e; exact e.symm)))
  have D2 := Lib.hid (show decide (decL [2, a, b, c] = decL [2, a, bits .xor .u8 b x, c]) = true by exact decide_eq_true (by simp [decL4, dec]))
  have D3 := Lib.hid (show decide (decL [2, a, b, c] = decL [2, a, b, bits .xor .u8 c x]) = true by exact decide_eq_true (by simp [decL4, dec]))
  have hxz : (x == 0) = false := by simp [hz]
  clear ha hb hc hx hz
  go_enter Try.func8, Try.ntmps8
  go_wp2_with fail
  refine (decodeAny _ _ 4 4 _ (reads_new w [2, a, b, c]) (four_bytes _ _ _ _ HK.out HA.out HB.out HC.out) (by omega) (by omega)).mono ?_
  rintro e w1 ⟨a1, n1, c1, rfl, s1, b1⟩
  have S1 := Lib.hid s1
  have E1 := Lib.hid ((Below.refl _ w).alloc (Nat.le_refl _) _ |>.trans (b1.mono (by simp)))
  have B1 := Lib.hid E1.out
  obtain rfl : n1 = 1 := by have := s1.1; rw [decL_length] at this; simp at this; omega
  clear s1 b1
  go_wp2_with fail
  refine (decodeAny _ _ 4 4 _ (reads_new w1 [2, bits .xor .u8 a x, b, c]) (four_bytes _ _ _ _ HK.out HXA.out HB.out HC.out) (by omega) (by omega)).mono ?_
  rintro e w2 ⟨a2, n2, c2, rfl, s2, b2⟩
  have S2 := Lib.hid s2
  have E2 := Lib.hid ((Below.refl _ w1).alloc (Nat.le_refl _) _ |>.trans (b2.mono (by simp)))
  have B2 := Lib.hid (B1.out.trans (E2.out.mono B1.out.size))
  obtain rfl : n2 = 1 := by have := s2.1; rw [decL_length] at this; simp at this; omega
  clear s2 b2
  go_wp2_with fail
  refine (decodeAny _ _ 4 4 _ (reads_new w2 [2, a, bits .xor .u8 b x, c]) (four_bytes _ _ _ _ HK.out HA.out HXB.out HC.out) (by omega) (by omega)).mono ?_
  rintro e w3 ⟨a3, n3, c3, rfl, s3, b3⟩
  have S3 := Lib.hid s3
  have E3 := Lib.hid ((Below.refl _ w2).alloc (Nat.le_refl _) _ |>.trans (b3.mono (by simp)))
  have B3 := Lib.hid (B2.out.trans (E3.out.mono B2.out.size))
  obtain rfl : n3 = 1 := by have := s3.1; rw [decL_length] at this; simp at this; omega
  clear s3 b3
  go_wp2_with fail
  refine (decodeAny _ _ 4 4 _ (reads_new w3 [2, a, b, bits .xor .u8 c x]) (four_bytes _ _ _ _ HK.out HA.out HB.out HXC.out) (by omega) (by omega)).mono ?_
  rintro e w4 ⟨a4, n4, c4, rfl, s4, b4⟩
  have S4 := Lib.hid s4
  have E4 := Lib.hid ((Below.refl _ w3).alloc (Nat.le_refl _) _ |>.trans (b4.mono (by simp)))
  have B4 := Lib.hid (B3.out.trans (E4.out.mono B3.out.size))
  obtain rfl : n4 = 1 := by have := s4.1; rw [decL_length] at this; simp at this; omega
  clear s4 b4
  go_wp2_with fail
  refine (knownAny _).mono ?_
  rintro e w5 ⟨rfl, b5⟩
  have E5 := Lib.hid b5
  have B5 := Lib.hid (B4.out.trans (b5.mono B4.out.size))
  clear b5
  have P6 := Lib.hid ((((S1.out.keep E2.out).keep E3.out).keep E4.out).keep E5.out)
  have Q6_2 := Lib.hid (((S2.out.keep E3.out).keep E4.out).keep E5.out)
  go_wp2_with fail
  refine (sameAny _ _ _ 1 1 _ _ _ _ P6.out Q6_2.out (by omega) (by omega)).mono ?_
  rintro e w6 ⟨rfl, b6⟩
  have E6 := Lib.hid b6
  have B6 := Lib.hid (B5.out.trans (b6.mono B5.out.size))
  clear b6
  rw [D1.out]
  have P7 := Lib.hid (P6.out.keep E6.out)
  have Q7_3 := Lib.hid (((S3.out.keep E4.out).keep E5.out).keep E6.out)
  go_wp2_with fail
  refine (sameAny _ _ _ 1 1 _ _ _ _ P7.out Q7_3.out (by omega) (by omega)).mono ?_
  rintro e w7 ⟨rfl, b7⟩
  have E7 := Lib.hid b7
  have B7 := Lib.hid (B6.out.trans (b7.mono B6.out.size))
  clear b7
  rw [D2.out]
  have P8 := Lib.hid (P7.out.keep E7.out)
  have Q8_4 := Lib.hid (((S4.out.keep E5.out).keep E6.out).keep E7.out)
  go_wp2_with fail
  refine (sameAny _ _ _ 1 1 _ _ _ _ P8.out Q8_4.out (by omega) (by omega)).mono ?_
  rintro e w8 ⟨rfl, b8⟩
  have E8 := Lib.hid b8
  have B8 := Lib.hid (B7.out.trans (b8.mono B7.out.size))
  clear b8
  rw [D3.out]
  go_wp2
  go_ret
  exact ⟨rfl, B8.out⟩

set_option maxRecDepth 100000 in
set_option maxHeartbeats 4000000 in
theorem kinds3z (a b c x : Int) (w : World) (ha : 0 ≤ a ∧ a ≤ 255) (hb : 0 ≤ b ∧ b ≤ 255) (hc : 0 ≤ c ∧ c ≤ 255) (hx : 0 ≤ x ∧ x ≤ 255) (hz : x = 0) :
    Calls Try.prog 8 #[.int .u8 3, .int .u8 a, .int .u8 b, .int .u8 c, .int .u8 x] w fun e w' => e = .returned (.bool true) ∧ Below w.heap.size w w' := by
  have HA := Lib.hid ha
  have HB := Lib.hid hb
  have HC := Lib.hid hc
  have HK := Lib.hid (show 0 ≤ (3 : Int) ∧ (3 : Int) ≤ 255 by omega)
  have HXA := Lib.hid (xor_byte a x ha hx)
  have HXB := Lib.hid (xor_byte b x hb hx)
  have HXC := Lib.hid (xor_byte c x hc hx)
  have D1 := Lib.hid (show decide (decL [3, a, b, c] = decL [3, bits .xor .u8 a x, b, c]) = true by rw [xor_same a x ha hz]; exact decide_eq_true rfl)
  have D2 := Lib.hid (show decide (decL [3, a, b, c] = decL [3, a, bits .xor .u8 b x, c]) = true by rw [xor_same b x hb hz]; exact decide_eq_true rfl)
  have D3 := Lib.hid (show decide (decL [3, a, b, c] = decL [3, a, b, bits .xor .u8 c x]) = true by rw [xor_same c x hc hz]; exact decide_eq_true rfl)
  have hxz : (x == 0) = true := by simp [hz]
  clear ha hb hc hx hz
  go_enter Try.func8, Try.ntmps8
  go_wp2_with fail
  refine (decodeAny _ _ 4 4 _ (reads_new w [3, a, b, c]) (four_bytes _ _ _ _ HK.out HA.out HB.out HC.out) (by omega) (by omega)).mono ?_
  rintro e w1 ⟨a1, n1, c1, rfl, s1, b1⟩
  have S1 := Lib.hid s1
  have E1 := Lib.hid ((Below.refl _ w).alloc (Nat.le_refl _) _ |>.trans (b1.mono (by simp)))
  have B1 := Lib.hid E1.out
  obtain rfl : n1 = 1 := by have := s1.1; rw [decL_length] at this; simp at this; omega
  clear s1 b1
  go_wp2_with fail
  refine (decodeAny _ _ 4 4 _ (reads_new w1 [3, bits .xor .u8 a x, b, c]) (four_bytes _ _ _ _ HK.out HXA.out HB.out HC.out) (by omega) (by omega)).mono ?_
  rintro e w2 ⟨a2, n2, c2, rfl, s2, b2⟩
  have S2 := Lib.hid s2
  have E2 := Lib.hid ((Below.refl _ w1).alloc (Nat.le_refl _) _ |>.trans (b2.mono (by simp)))
  have B2 := Lib.hid (B1.out.trans (E2.out.mono B1.out.size))
  obtain rfl : n2 = 1 := by have := s2.1; rw [decL_length] at this; simp at this; omega
  clear s2 b2
  go_wp2_with fail
  refine (decodeAny _ _ 4 4 _ (reads_new w2 [3, a, bits .xor .u8 b x, c]) (four_bytes _ _ _ _ HK.out HA.out HXB.out HC.out) (by omega) (by omega)).mono ?_
  rintro e w3 ⟨a3, n3, c3, rfl, s3, b3⟩
  have S3 := Lib.hid s3
  have E3 := Lib.hid ((Below.refl _ w2).alloc (Nat.le_refl _) _ |>.trans (b3.mono (by simp)))
  have B3 := Lib.hid (B2.out.trans (E3.out.mono B2.out.size))
  obtain rfl : n3 = 1 := by have := s3.1; rw [decL_length] at this; simp at this; omega
  clear s3 b3
  go_wp2_with fail
  refine (decodeAny _ _ 4 4 _ (reads_new w3 [3, a, b, bits .xor .u8 c x]) (four_bytes _ _ _ _ HK.out HA.out HB.out HXC.out) (by omega) (by omega)).mono ?_
  rintro e w4 ⟨a4, n4, c4, rfl, s4, b4⟩
  have S4 := Lib.hid s4
  have E4 := Lib.hid ((Below.refl _ w3).alloc (Nat.le_refl _) _ |>.trans (b4.mono (by simp)))
  have B4 := Lib.hid (B3.out.trans (E4.out.mono B3.out.size))
  obtain rfl : n4 = 1 := by have := s4.1; rw [decL_length] at this; simp at this; omega
  clear s4 b4
  go_wp2_with fail
  refine (knownAny _).mono ?_
  rintro e w5 ⟨rfl, b5⟩
  have E5 := Lib.hid b5
  have B5 := Lib.hid (B4.out.trans (b5.mono B4.out.size))
  clear b5
  have P6 := Lib.hid ((((S1.out.keep E2.out).keep E3.out).keep E4.out).keep E5.out)
  have Q6_2 := Lib.hid (((S2.out.keep E3.out).keep E4.out).keep E5.out)
  go_wp2_with fail
  refine (sameAny _ _ _ 1 1 _ _ _ _ P6.out Q6_2.out (by omega) (by omega)).mono ?_
  rintro e w6 ⟨rfl, b6⟩
  have E6 := Lib.hid b6
  have B6 := Lib.hid (B5.out.trans (b6.mono B5.out.size))
  clear b6
  rw [D1.out]
  have P7 := Lib.hid (P6.out.keep E6.out)
  have Q7_3 := Lib.hid (((S3.out.keep E4.out).keep E5.out).keep E6.out)
  go_wp2_with fail
  refine (sameAny _ _ _ 1 1 _ _ _ _ P7.out Q7_3.out (by omega) (by omega)).mono ?_
  rintro e w7 ⟨rfl, b7⟩
  have E7 := Lib.hid b7
  have B7 := Lib.hid (B6.out.trans (b7.mono B6.out.size))
  clear b7
  rw [D2.out]
  have P8 := Lib.hid (P7.out.keep E7.out)
  have Q8_4 := Lib.hid (((S4.out.keep E5.out).keep E6.out).keep E7.out)
  go_wp2_with fail
  refine (sameAny _ _ _ 1 1 _ _ _ _ P8.out Q8_4.out (by omega) (by omega)).mono ?_
  rintro e w8 ⟨rfl, b8⟩
  have E8 := Lib.hid b8
  have B8 := Lib.hid (B7.out.trans (b8.mono B7.out.size))
  clear b8
  rw [D3.out]
  go_wp2
  go_ret
  exact ⟨rfl, B8.out⟩

set_option maxRecDepth 100000 in
set_option maxHeartbeats 4000000 in
theorem kinds3n (a b c x : Int) (w : World) (ha : 0 ≤ a ∧ a ≤ 255) (hb : 0 ≤ b ∧ b ≤ 255) (hc : 0 ≤ c ∧ c ≤ 255) (hx : 0 ≤ x ∧ x ≤ 255) (hz : x ≠ 0) :
    Calls Try.prog 8 #[.int .u8 3, .int .u8 a, .int .u8 b, .int .u8 c, .int .u8 x] w fun e w' => e = .returned (.bool true) ∧ Below w.heap.size w w' := by
  have HA := Lib.hid ha
  have HB := Lib.hid hb
  have HC := Lib.hid hc
  have HK := Lib.hid (show 0 ≤ (3 : Int) ∧ (3 : Int) ≤ 255 by omega)
  have HXA := Lib.hid (xor_byte a x ha hx)
  have HXB := Lib.hid (xor_byte b x hb hx)
  have HXC := Lib.hid (xor_byte c x hc hx)
  have D1 := Lib.hid (show decide (decL [3, a, b, c] = decL [3, bits .xor .u8 a x, b, c]) = true by exact decide_eq_true (by simp [decL4, dec]))
  have D2 := Lib.hid (show decide (decL [3, a, b, c] = decL [3, a, bits .xor .u8 b x, c]) = true by exact decide_eq_true (by simp [decL4, dec]))
  have D3 := Lib.hid (show decide (decL [3, a, b, c] = decL [3, a, b, bits .xor .u8 c x]) = false by exact decide_eq_false (fun e => xor_other c x hc hx hz (by simp [decL4, dec] at e; exact e.symm)))
  have hxz : (x == 0) = false := by simp [hz]
  clear ha hb hc hx hz
  go_enter Try.func8, Try.ntmps8
  go_wp2_with fail
  refine (decodeAny _ _ 4 4 _ (reads_new w [3, a, b, c]) (four_bytes _ _ _ _ HK.out HA.out HB.out HC.out) (by omega) (by omega)).mono ?_
  rintro e w1 ⟨a1, n1, c1, rfl, s1, b1⟩
  have S1 := Lib.hid s1
  have E1 := Lib.hid ((Below.refl _ w).alloc (Nat.le_refl _) _ |>.trans (b1.mono (by simp)))
  have B1 := Lib.hid E1.out
  obtain rfl : n1 = 1 := by have := s1.1; rw [decL_length] at this; simp at this; omega
  clear s1 b1
  go_wp2_with fail
  refine (decodeAny _ _ 4 4 _ (reads_new w1 [3, bits .xor .u8 a x, b, c]) (four_bytes _ _ _ _ HK.out HXA.out HB.out HC.out) (by omega) (by omega)).mono ?_
  rintro e w2 ⟨a2, n2, c2, rfl, s2, b2⟩
  have S2 := Lib.hid s2
  have E2 := Lib.hid ((Below.refl _ w1).alloc (Nat.le_refl _) _ |>.trans (b2.mono (by simp)))
  have B2 := Lib.hid (B1.out.trans (E2.out.mono B1.out.size))
  obtain rfl : n2 = 1 := by have := s2.1; rw [decL_length] at this; simp at this; omega
  clear s2 b2
  go_wp2_with fail
  refine (decodeAny _ _ 4 4 _ (reads_new w2 [3, a, bits .xor .u8 b x, c]) (four_bytes _ _ _ _ HK.out HA.out HXB.out HC.out) (by omega) (by omega)).mono ?_
  rintro e w3 ⟨a3, n3, c3, rfl, s3, b3⟩
  have S3 := Lib.hid s3
  have E3 := Lib.hid ((Below.refl _ w2).alloc (Nat.le_refl _) _ |>.trans (b3.mono (by simp)))
  have B3 := Lib.hid (B2.out.trans (E3.out.mono B2.out.size))
  obtain rfl : n3 = 1 := by have := s3.1; rw [decL_length] at this; simp at this; omega
  clear s3 b3
  go_wp2_with fail
  refine (decodeAny _ _ 4 4 _ (reads_new w3 [3, a, b, bits .xor .u8 c x]) (four_bytes _ _ _ _ HK.out HA.out HB.out HXC.out) (by omega) (by omega)).mono ?_
  rintro e w4 ⟨a4, n4, c4, rfl, s4, b4⟩
  have S4 := Lib.hid s4
  have E4 := Lib.hid ((Below.refl _ w3).alloc (Nat.le_refl _) _ |>.trans (b4.mono (by simp)))
  have B4 := Lib.hid (B3.out.trans (E4.out.mono B3.out.size))
  obtain rfl : n4 = 1 := by have := s4.1; rw [decL_length] at this; simp at this; omega
  clear s4 b4
  go_wp2_with fail
  refine (knownAny _).mono ?_
  rintro e w5 ⟨rfl, b5⟩
  have E5 := Lib.hid b5
  have B5 := Lib.hid (B4.out.trans (b5.mono B4.out.size))
  clear b5
  have P6 := Lib.hid ((((S1.out.keep E2.out).keep E3.out).keep E4.out).keep E5.out)
  have Q6_2 := Lib.hid (((S2.out.keep E3.out).keep E4.out).keep E5.out)
  go_wp2_with fail
  refine (sameAny _ _ _ 1 1 _ _ _ _ P6.out Q6_2.out (by omega) (by omega)).mono ?_
  rintro e w6 ⟨rfl, b6⟩
  have E6 := Lib.hid b6
  have B6 := Lib.hid (B5.out.trans (b6.mono B5.out.size))
  clear b6
  rw [D1.out]
  have P7 := Lib.hid (P6.out.keep E6.out)
  have Q7_3 := Lib.hid (((S3.out.keep E4.out).keep E5.out).keep E6.out)
  go_wp2_with fail
  refine (sameAny _ _ _ 1 1 _ _ _ _ P7.out Q7_3.out (by omega) (by omega)).mono ?_
  rintro e w7 ⟨rfl, b7⟩
  have E7 := Lib.hid b7
  have B7 := Lib.hid (B6.out.trans (b7.mono B6.out.size))
  clear b7
  rw [D2.out]
  have P8 := Lib.hid (P7.out.keep E7.out)
  have Q8_4 := Lib.hid (((S4.out.keep E5.out).keep E6.out).keep E7.out)
  go_wp2_with fail
  refine (sameAny _ _ _ 1 1 _ _ _ _ P8.out Q8_4.out (by omega) (by omega)).mono ?_
  rintro e w8 ⟨rfl, b8⟩
  have E8 := Lib.hid b8
  have B8 := Lib.hid (B7.out.trans (b8.mono B7.out.size))
  clear b8
  rw [D3.out]
  go_wp2
  go_ret
  exact ⟨rfl, B8.out⟩

set_option maxRecDepth 100000 in
set_option maxHeartbeats 4000000 in
theorem kinds0z (k a b c x : Int) (w : World) (hk : 0 ≤ k ∧ k ≤ 255) (hk1 : k ≠ 1) (hk2 : k ≠ 2) (hk3 : k ≠ 3) (ha : 0 ≤ a ∧ a ≤ 255) (hb : 0 ≤ b ∧ b ≤ 255) (hc : 0 ≤ c ∧ c ≤ 255) (hx : 0 ≤ x ∧ x ≤ 255) (hz : x = 0) :
    Calls Try.prog 8 #[.int .u8 k, .int .u8 a, .int .u8 b, .int .u8 c, .int .u8 x] w fun e w' => e = .returned (.bool true) ∧ Below w.heap.size w w' := by
  have HA := Lib.hid ha
  have HB := Lib.hid hb
  have HC := Lib.hid hc
  have HK := Lib.hid (show 0 ≤ (k : Int) ∧ (k : Int) ≤ 255 by omega)
  have HXA := Lib.hid (xor_byte a x ha hx)
  have HXB := Lib.hid (xor_byte b x hb hx)
  have HXC := Lib.hid (xor_byte c x hc hx)
  have D1 := Lib.hid (show decide (decL [k, a, b, c] = decL [k, bits .xor .u8 a x, b, c]) = true by rw [xor_same a x ha hz]; exact decide_eq_true rfl)
  have D2 := Lib.hid (show decide (decL [k, a, b, c] = decL [k, a, bits .xor .u8 b x, c]) = true by rw [xor_same b x hb hz]; exact decide_eq_true rfl)
  have D3 := Lib.hid (show decide (decL [k, a, b, c] = decL [k, a, b, bits .xor .u8 c x]) = true by rw [xor_same c x hc hz]; exact decide_eq_true rfl)
  have HDe := Lib.hid (show decL [k, a, b, c] = [⟨0, 0, 0, 0, 0⟩] by rw [decL4, dec_else _ _ _ _ hk1 hk2 hk3])
  have hxz : (x == 0) = true := by simp [hz]
  have k1 := beq_eq_false_iff_ne.2 hk1
  have k2 := beq_eq_false_iff_ne.2 hk2
  have k3 := beq_eq_false_iff_ne.2 hk3
  clear hk1 hk2 hk3 hk
  clear ha hb hc hx hz
  go_enter Try.func8, Try.ntmps8
  go_wp2_with fail
  refine (decodeAny _ _ 4 4 _ (reads_new w [k, a, b, c]) (four_bytes _ _ _ _ HK.out HA.out HB.out HC.out) (by omega) (by omega)).mono ?_
  rintro e w1 ⟨a1, n1, c1, rfl, s1, b1⟩
  have S1 := Lib.hid s1
  have E1 := Lib.hid ((Below.refl _ w).alloc (Nat.le_refl _) _ |>.trans (b1.mono (by simp)))
  have B1 := Lib.hid E1.out
  obtain rfl : n1 = 1 := by have := s1.1; rw [decL_length] at this; simp at this; omega
  clear s1 b1
  go_wp2_with fail
  refine (decodeAny _ _ 4 4 _ (reads_new w1 [k, bits .xor .u8 a x, b, c]) (four_bytes _ _ _ _ HK.out HXA.out HB.out HC.out) (by omega) (by omega)).mono ?_
  rintro e w2 ⟨a2, n2, c2, rfl, s2, b2⟩
  have S2 := Lib.hid s2
  have E2 := Lib.hid ((Below.refl _ w1).alloc (Nat.le_refl _) _ |>.trans (b2.mono (by simp)))
  have B2 := Lib.hid (B1.out.trans (E2.out.mono B1.out.size))
  obtain rfl : n2 = 1 := by have := s2.1; rw [decL_length] at this; simp at this; omega
  clear s2 b2
  go_wp2_with fail
  refine (decodeAny _ _ 4 4 _ (reads_new w2 [k, a, bits .xor .u8 b x, c]) (four_bytes _ _ _ _ HK.out HA.out HXB.out HC.out) (by omega) (by omega)).mono ?_
  rintro e w3 ⟨a3, n3, c3, rfl, s3, b3⟩
  have S3 := Lib.hid s3
  have E3 := Lib.hid ((Below.refl _ w2).alloc (Nat.le_refl _) _ |>.trans (b3.mono (by simp)))
  have B3 := Lib.hid (B2.out.trans (E3.out.mono B2.out.size))
  obtain rfl : n3 = 1 := by have := s3.1; rw [decL_length] at this; simp at this; omega
  clear s3 b3
  go_wp2_with fail
  refine (decodeAny _ _ 4 4 _ (reads_new w3 [k, a, b, bits .xor .u8 c x]) (four_bytes _ _ _ _ HK.out HA.out HB.out HXC.out) (by omega) (by omega)).mono ?_
  rintro e w4 ⟨a4, n4, c4, rfl, s4, b4⟩
  have S4 := Lib.hid s4
  have E4 := Lib.hid ((Below.refl _ w3).alloc (Nat.le_refl _) _ |>.trans (b4.mono (by simp)))
  have B4 := Lib.hid (B3.out.trans (E4.out.mono B3.out.size))
  obtain rfl : n4 = 1 := by have := s4.1; rw [decL_length] at this; simp at this; omega
  clear s4 b4
  go_wp2_with fail
  refine (knownAny _).mono ?_
  rintro e w5 ⟨rfl, b5⟩
  have E5 := Lib.hid b5
  have B5 := Lib.hid (B4.out.trans (b5.mono B4.out.size))
  clear b5
  have P6 := Lib.hid ((((S1.out.keep E2.out).keep E3.out).keep E4.out).keep E5.out)
  have Q6_2 := Lib.hid (((S2.out.keep E3.out).keep E4.out).keep E5.out)
  go_wp2_with fail
  refine (sameAny _ _ _ 1 1 _ _ _ _ P6.out Q6_2.out (by omega) (by omega)).mono ?_
  rintro e w6 ⟨rfl, b6⟩
  have E6 := Lib.hid b6
  have B6 := Lib.hid (B5.out.trans (b6.mono B5.out.size))
  clear b6
  rw [D1.out]
  have P7 := Lib.hid (P6.out.keep E6.out)
  have Q7_3 := Lib.hid (((S3.out.keep E4.out).keep E5.out).keep E6.out)
  go_wp2_with fail
  refine (sameAny _ _ _ 1 1 _ _ _ _ P7.out Q7_3.out (by omega) (by omega)).mono ?_
  rintro e w7 ⟨rfl, b7⟩
  have E7 := Lib.hid b7
  have B7 := Lib.hid (B6.out.trans (b7.mono B6.out.size))
  clear b7
  rw [D2.out]
  have P8 := Lib.hid (P7.out.keep E7.out)
  have Q8_4 := Lib.hid (((S4.out.keep E5.out).keep E6.out).keep E7.out)
  go_wp2_with fail
  refine (sameAny _ _ _ 1 1 _ _ _ _ P8.out Q8_4.out (by omega) (by omega)).mono ?_
  rintro e w8 ⟨rfl, b8⟩
  have E8 := Lib.hid b8
  have B8 := Lib.hid (B7.out.trans (b8.mono B7.out.size))
  clear b8
  rw [D3.out]
  have P9 := Lib.hid (P8.out.keep E8.out)
  obtain ⟨g, off, rfl, _, hat⟩ := P9.out.2 (by omega)
  rw [HDe.out] at hat
  obtain ⟨z0, z1, z2, z3, z4⟩ := hat 0 (by omega)
  simp only [Nat.zero_mul, Nat.add_zero, List.getD_cons_zero] at z0 z1 z2 z3 z4
  have hq := @eqEnt
  have hqt : entEq 0 0 0 0 0 0 0 0 0 0 = true := by decide
  clear hat
  go_wp2
  go_ret
  exact ⟨rfl, B8.out⟩

set_option maxRecDepth 100000 in
set_option maxHeartbeats 4000000 in
theorem kinds0n (k a b c x : Int) (w : World) (hk : 0 ≤ k ∧ k ≤ 255) (hk1 : k ≠ 1) (hk2 : k ≠ 2) (hk3 : k ≠ 3) (ha : 0 ≤ a ∧ a ≤ 255) (hb : 0 ≤ b ∧ b ≤ 255) (hc : 0 ≤ c ∧ c ≤ 255) (hx : 0 ≤ x ∧ x ≤ 255) (hz : x ≠ 0) :
    Calls Try.prog 8 #[.int .u8 k, .int .u8 a, .int .u8 b, .int .u8 c, .int .u8 x] w fun e w' => e = .returned (.bool true) ∧ Below w.heap.size w w' := by
  have HA := Lib.hid ha
  have HB := Lib.hid hb
  have HC := Lib.hid hc
  have HK := Lib.hid (show 0 ≤ (k : Int) ∧ (k : Int) ≤ 255 by omega)
  have HXA := Lib.hid (xor_byte a x ha hx)
  have HXB := Lib.hid (xor_byte b x hb hx)
  have HXC := Lib.hid (xor_byte c x hc hx)
  have D1 := Lib.hid (show decide (decL [k, a, b, c] = decL [k, bits .xor .u8 a x, b, c]) = true by exact decide_eq_true (by rw [decL4, decL4, dec_else _ _ _ _ hk1 hk2 hk3, dec_else _ _ _ _ hk1 hk2 hk3]))
  have D2 := Lib.hid (show decide (decL [k, a, b, c] = decL [k, a, bits .xor .u8 b x, c]) = true by exact decide_eq_true (by rw [decL4, decL4, dec_else _ _ _ _ hk1 hk2 hk3, dec_else _ _ _ _ hk1 hk2 hk3]))
  have D3 := Lib.hid (show decide (decL [k, a, b, c] = decL [k, a, b, bits .xor .u8 c x]) = true by exact decide_eq_true (by rw [decL4, decL4, dec_else _ _ _ _ hk1 hk2 hk3, dec_else _ _ _ _ hk1 hk2 hk3]))
  have HDe := Lib.hid (show decL [k, a, b, c] = [⟨0, 0, 0, 0, 0⟩] by rw [decL4, dec_else _ _ _ _ hk1 hk2 hk3])
  have hxz : (x == 0) = false := by simp [hz]
  have k1 := beq_eq_false_iff_ne.2 hk1
  have k2 := beq_eq_false_iff_ne.2 hk2
  have k3 := beq_eq_false_iff_ne.2 hk3
  clear hk1 hk2 hk3 hk
  clear ha hb hc hx hz
  go_enter Try.func8, Try.ntmps8
  go_wp2_with fail
  refine (decodeAny _ _ 4 4 _ (reads_new w [k, a, b, c]) (four_bytes _ _ _ _ HK.out HA.out HB.out HC.out) (by omega) (by omega)).mono ?_
  rintro e w1 ⟨a1, n1, c1, rfl, s1, b1⟩
  have S1 := Lib.hid s1
  have E1 := Lib.hid ((Below.refl _ w).alloc (Nat.le_refl _) _ |>.trans (b1.mono (by simp)))
  have B1 := Lib.hid E1.out
  obtain rfl : n1 = 1 := by have := s1.1; rw [decL_length] at this; simp at this; omega
  clear s1 b1
  go_wp2_with fail
  refine (decodeAny _ _ 4 4 _ (reads_new w1 [k, bits .xor .u8 a x, b, c]) (four_bytes _ _ _ _ HK.out HXA.out HB.out HC.out) (by omega) (by omega)).mono ?_
  rintro e w2 ⟨a2, n2, c2, rfl, s2, b2⟩
  have S2 := Lib.hid s2
  have E2 := Lib.hid ((Below.refl _ w1).alloc (Nat.le_refl _) _ |>.trans (b2.mono (by simp)))
  have B2 := Lib.hid (B1.out.trans (E2.out.mono B1.out.size))
  obtain rfl : n2 = 1 := by have := s2.1; rw [decL_length] at this; simp at this; omega
  clear s2 b2
  go_wp2_with fail
  refine (decodeAny _ _ 4 4 _ (reads_new w2 [k, a, bits .xor .u8 b x, c]) (four_bytes _ _ _ _ HK.out HA.out HXB.out HC.out) (by omega) (by omega)).mono ?_
  rintro e w3 ⟨a3, n3, c3, rfl, s3, b3⟩
  have S3 := Lib.hid s3
  have E3 := Lib.hid ((Below.refl _ w2).alloc (Nat.le_refl _) _ |>.trans (b3.mono (by simp)))
  have B3 := Lib.hid (B2.out.trans (E3.out.mono B2.out.size))
  obtain rfl : n3 = 1 := by have := s3.1; rw [decL_length] at this; simp at this; omega
  clear s3 b3
  go_wp2_with fail
  refine (decodeAny _ _ 4 4 _ (reads_new w3 [k, a, b, bits .xor .u8 c x]) (four_bytes _ _ _ _ HK.out HA.out HB.out HXC.out) (by omega) (by omega)).mono ?_
  rintro e w4 ⟨a4, n4, c4, rfl, s4, b4⟩
  have S4 := Lib.hid s4
  have E4 := Lib.hid ((Below.refl _ w3).alloc (Nat.le_refl _) _ |>.trans (b4.mono (by simp)))
  have B4 := Lib.hid (B3.out.trans (E4.out.mono B3.out.size))
  obtain rfl : n4 = 1 := by have := s4.1; rw [decL_length] at this; simp at this; omega
  clear s4 b4
  go_wp2_with fail
  refine (knownAny _).mono ?_
  rintro e w5 ⟨rfl, b5⟩
  have E5 := Lib.hid b5
  have B5 := Lib.hid (B4.out.trans (b5.mono B4.out.size))
  clear b5
  have P6 := Lib.hid ((((S1.out.keep E2.out).keep E3.out).keep E4.out).keep E5.out)
  have Q6_2 := Lib.hid (((S2.out.keep E3.out).keep E4.out).keep E5.out)
  go_wp2_with fail
  refine (sameAny _ _ _ 1 1 _ _ _ _ P6.out Q6_2.out (by omega) (by omega)).mono ?_
  rintro e w6 ⟨rfl, b6⟩
  have E6 := Lib.hid b6
  have B6 := Lib.hid (B5.out.trans (b6.mono B5.out.size))
  clear b6
  rw [D1.out]
  have P7 := Lib.hid (P6.out.keep E6.out)
  have Q7_3 := Lib.hid (((S3.out.keep E4.out).keep E5.out).keep E6.out)
  go_wp2_with fail
  refine (sameAny _ _ _ 1 1 _ _ _ _ P7.out Q7_3.out (by omega) (by omega)).mono ?_
  rintro e w7 ⟨rfl, b7⟩
  have E7 := Lib.hid b7
  have B7 := Lib.hid (B6.out.trans (b7.mono B6.out.size))
  clear b7
  rw [D2.out]
  have P8 := Lib.hid (P7.out.keep E7.out)
  have Q8_4 := Lib.hid (((S4.out.keep E5.out).keep E6.out).keep E7.out)
  go_wp2_with fail
  refine (sameAny _ _ _ 1 1 _ _ _ _ P8.out Q8_4.out (by omega) (by omega)).mono ?_
  rintro e w8 ⟨rfl, b8⟩
  have E8 := Lib.hid b8
  have B8 := Lib.hid (B7.out.trans (b8.mono B7.out.size))
  clear b8
  rw [D3.out]
  have P9 := Lib.hid (P8.out.keep E8.out)
  obtain ⟨g, off, rfl, _, hat⟩ := P9.out.2 (by omega)
  rw [HDe.out] at hat
  obtain ⟨z0, z1, z2, z3, z4⟩ := hat 0 (by omega)
  simp only [Nat.zero_mul, Nat.add_zero, List.getD_cons_zero] at z0 z1 z2 z3 z4
  have hq := @eqEnt
  have hqt : entEq 0 0 0 0 0 0 0 0 0 0 = true := by decide
  clear hat
  go_wp2
  go_ret
  exact ⟨rfl, B8.out⟩

theorem kindsWalk (k a b c x : Int) (hk0 : 0 ≤ k) (hk1 : k ≤ 255) (ha0 : 0 ≤ a) (ha1 : a ≤ 255) (hb0 : 0 ≤ b) (hb1 : b ≤ 255) (hc0 : 0 ≤ c) (hc1 : c ≤ 255) (hx0 : 0 ≤ x) (hx1 : x ≤ 255) (w : World) :
    Calls Try.prog 8 #[.int .u8 k, .int .u8 a, .int .u8 b, .int .u8 c, .int .u8 x] w fun e w' => e = .returned (.bool true) ∧ Below w.heap.size w w' := by
  by_cases e1 : k = 1
  · subst e1
    by_cases hz : x = 0
    · exact kinds1z a b c x w ⟨ha0, ha1⟩ ⟨hb0, hb1⟩ ⟨hc0, hc1⟩ ⟨hx0, hx1⟩ hz
    · exact kinds1n a b c x w ⟨ha0, ha1⟩ ⟨hb0, hb1⟩ ⟨hc0, hc1⟩ ⟨hx0, hx1⟩ hz
  · by_cases e2 : k = 2
    · subst e2
      by_cases hz : x = 0
      · exact kinds2z a b c x w ⟨ha0, ha1⟩ ⟨hb0, hb1⟩ ⟨hc0, hc1⟩ ⟨hx0, hx1⟩ hz
      · exact kinds2n a b c x w ⟨ha0, ha1⟩ ⟨hb0, hb1⟩ ⟨hc0, hc1⟩ ⟨hx0, hx1⟩ hz
    · by_cases e3 : k = 3
      · subst e3
        by_cases hz : x = 0
        · exact kinds3z a b c x w ⟨ha0, ha1⟩ ⟨hb0, hb1⟩ ⟨hc0, hc1⟩ ⟨hx0, hx1⟩ hz
        · exact kinds3n a b c x w ⟨ha0, ha1⟩ ⟨hb0, hb1⟩ ⟨hc0, hc1⟩ ⟨hx0, hx1⟩ hz
      · by_cases hz : x = 0
        · exact kinds0z k a b c x w ⟨hk0, hk1⟩ e1 e2 e3 ⟨ha0, ha1⟩ ⟨hb0, hb1⟩ ⟨hc0, hc1⟩ ⟨hx0, hx1⟩ hz
        · exact kinds0n k a b c x w ⟨hk0, hk1⟩ e1 e2 e3 ⟨ha0, ha1⟩ ⟨hb0, hb1⟩ ⟨hc0, hc1⟩ ⟨hx0, hx1⟩ hz

end Go.Proofs.Ytblkkafilabbkaa
