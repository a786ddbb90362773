/-
  The walk of CellsLast: for all numbers it answers true and leaves all old memory as it was.
-/
import Derived.Test.YteebmcldmiemnaaSwapsWalk
namespace Go.Proofs.Yteebmcldmiemnaa
open Go.RowKit

theorem getD_set_ne {L : List Int} {i j : Nat} (x : Int) (h : i ≠ j) : (L.set i x).getD j 0 = L.getD j 0 := by
  simp [List.getD, List.getElem?_set_ne h]

theorem getD_noughts (k j : Nat) : ([] ++ List.replicate k (0 : Int)).getD j 0 = 0 := by
  simp only [List.nil_append, List.getD, List.getElem?_replicate]
  split <;> rfl

set_option maxRecDepth 100000 in
set_option maxHeartbeats 8000000 in
theorem lastWalk (n a b v u old : Int) (n0 : 0 ≤ n) (n1 : n ≤ 255) (a0 : 0 ≤ a) (a1 : a ≤ 255) (b0 : 0 ≤ b) (b1 : b ≤ 255)
    (_ : -9223372036854775808 ≤ v) (_ : v ≤ 9223372036854775807) (_ : -9223372036854775808 ≤ u) (_ : u ≤ 9223372036854775807) (_ : -9223372036854775808 ≤ old) (_ : old ≤ 9223372036854775807) (w : World) :
    Calls Try.prog 4 #[.int .u8 n, .int .u8 a, .int .u8 b, .int .i64 v, .int .i64 u, .int .i64 old] w fun e w' => e = .returned (.bool true) ∧ Below w.heap.size w w' := by
  have hk := (show 1 ≤ 1 + n % 30 ∧ 1 + n % 30 ≤ 30 from by omega)
  go_enter Try.func4, Try.ntmps4
  go_wp2_with fail
  generalize 1 + n % 30 = k at *
  obtain ⟨k0, k1⟩ := hk
  refine (new1 k w (by omega) (by omega)).mono ?_
  rintro e w1 ⟨rfl, m1, b1⟩
  have C := alloc1 m1 k (by omega) (by simp) (by omega) (by omega)
  have HB1 := Lib.hid (b1)
  clear b1 m1
  go_wp2_with fail
  refine C.mono ?_
  clear C
  rintro e w2 ⟨rfl, m2, b2⟩
  have HZ := Lib.hid (fun j => getD_noughts k.toNat j)
  generalize hL : [] ++ List.replicate k.toNat (0 : Int) = L at m2 HZ
  have HL := Lib.hid (show (L.length : Int) = k by subst hL; simp; omega)
  clear hL
  have HB2 := Lib.hid (HB1.out.trans b2)
  clear b2
  have x0 : 0 ≤ a % k := Int.emod_nonneg _ (by omega)
  have x1 : a % k < k := Int.emod_lt_of_pos _ (by omega)
  have y0 : 0 ≤ b % k := Int.emod_nonneg _ (by omega)
  have y1 : b % k < k := Int.emod_lt_of_pos _ (by omega)
  go_wp2_with fail
  generalize a % k = x at *
  generalize b % k = y at *
  have xl : x.toNat < L.length := by have := HL.out; omega
  have yl : y.toNat < L.length := by have := HL.out; omega
  refine (store1 m2 x v x0 (by rw [HL.out]; exact x1) (by omega) (by omega)).mono ?_
  clear m2
  rintro e w3 ⟨rfl, m3, b3⟩
  have HB3 := Lib.hid (HB2.out.trans b3)
  clear b3
  go_wp2_with fail
  by_cases hxy : x = y
  · subst hxy
    by_cases ho : v = old
    · subst ho
      refine (swap1 m3 x v u x0 (by simp [HL.out]; exact x1) (getD_set v xl) (by omega) (by omega)).mono ?_
      clear m3
      rintro e w4 ⟨rfl, m4, b4⟩
      have HB4 := Lib.hid (HB3.out.trans b4)
      clear b4
      go_wp2_with fail
      have C := load1 m4 x x0 (by simp [HL.out]; exact x1) (by omega) (by omega)
      rw [getD_set u (by simpa using xl)] at C
      clear m4
      refine C.mono ?_
      clear C
      rintro e w5 ⟨rfl, m5, b5⟩
      have HB5 := Lib.hid (HB4.out.trans b5)
      clear b5
      go_wp2_with fail
      have C := load1 m5 x x0 (by simp [HL.out]; exact x1) (by omega) (by omega)
      rw [getD_set u (by simpa using xl)] at C
      clear m5
      refine C.mono ?_
      clear C
      rintro e w6 ⟨rfl, m6, b6⟩
      have HB6 := Lib.hid (HB5.out.trans b6)
      have HM6 := Lib.hid m6
      clear b6 m6
      go_wp2_with (first
        | (go_at_call 9; refine (known _).mono ?_; rintro e w7 ⟨rfl, b7⟩; have C := cells1 (HM6.out.keep b7); have HB7 := Lib.hid (HB6.out.trans (b7.mono HB6.out.size)); clear b7)
        | (go_at_call 16; refine C.mono ?_; rintro e w8 ⟨rfl, _, b8⟩; have HB8 := Lib.hid (HB7.out.trans (b8.mono HB7.out.size)); clear b8 C))
      all_goals go_ret
      all_goals exact ⟨by simp [HL.out], HB8.out⟩
    · skip
      refine (swapNo1 m3 x old u x0 (by simp [HL.out]; exact x1) (by rw [getD_set v xl]; exact ho) (by omega) (by omega)).mono ?_
      clear m3
      rintro e w4 ⟨rfl, m4, b4⟩
      have HB4 := Lib.hid (HB3.out.trans b4)
      clear b4
      go_wp2_with fail
      have C := load1 m4 x x0 (by simp [HL.out]; exact x1) (by omega) (by omega)
      rw [getD_set v xl] at C
      clear m4
      refine C.mono ?_
      clear C
      rintro e w5 ⟨rfl, m5, b5⟩
      have HB5 := Lib.hid (HB4.out.trans b5)
      clear b5
      go_wp2_with fail
      have C := load1 m5 x x0 (by simp [HL.out]; exact x1) (by omega) (by omega)
      rw [getD_set v xl] at C
      clear m5
      refine C.mono ?_
      clear C
      rintro e w6 ⟨rfl, m6, b6⟩
      have HB6 := Lib.hid (HB5.out.trans b6)
      have HM6 := Lib.hid m6
      clear b6 m6
      go_wp2_with (first
        | (go_at_call 9; refine (known _).mono ?_; rintro e w7 ⟨rfl, b7⟩; have C := cells1 (HM6.out.keep b7); have HB7 := Lib.hid (HB6.out.trans (b7.mono HB6.out.size)); clear b7)
        | (go_at_call 16; refine C.mono ?_; rintro e w8 ⟨rfl, _, b8⟩; have HB8 := Lib.hid (HB7.out.trans (b8.mono HB7.out.size)); clear b8 C))
      all_goals go_ret
      all_goals exact ⟨by simp [HL.out, ho], HB8.out⟩
  · by_cases ho : 0 = old
    · subst ho
      refine (swap1 m3 y 0 u y0 (by simp [HL.out]; exact y1) (by rw [getD_set_ne v (by omega)]; exact HZ.out _) (by omega) (by omega)).mono ?_
      clear m3
      rintro e w4 ⟨rfl, m4, b4⟩
      have HB4 := Lib.hid (HB3.out.trans b4)
      clear b4
      go_wp2_with fail
      have C := load1 m4 y y0 (by simp [HL.out]; exact y1) (by omega) (by omega)
      rw [getD_set u (by simpa using yl)] at C
      clear m4
      refine C.mono ?_
      clear C
      rintro e w5 ⟨rfl, m5, b5⟩
      have HB5 := Lib.hid (HB4.out.trans b5)
      clear b5
      go_wp2_with fail
      have C := load1 m5 x x0 (by simp [HL.out]; exact x1) (by omega) (by omega)
      rw [getD_set_ne u (by omega), getD_set v xl] at C
      clear m5
      refine C.mono ?_
      clear C
      rintro e w6 ⟨rfl, m6, b6⟩
      have HB6 := Lib.hid (HB5.out.trans b6)
      have HM6 := Lib.hid m6
      clear b6 m6
      go_wp2_with (first
        | (go_at_call 9; refine (known _).mono ?_; rintro e w7 ⟨rfl, b7⟩; have C := cells1 (HM6.out.keep b7); have HB7 := Lib.hid (HB6.out.trans (b7.mono HB6.out.size)); clear b7)
        | (go_at_call 16; refine C.mono ?_; rintro e w8 ⟨rfl, _, b8⟩; have HB8 := Lib.hid (HB7.out.trans (b8.mono HB7.out.size)); clear b8 C))
      all_goals go_ret
      all_goals exact ⟨by simp [HL.out], HB8.out⟩
    · skip
      refine (swapNo1 m3 y old u y0 (by simp [HL.out]; exact y1) (by rw [getD_set_ne v (by omega), HZ.out]; exact ho) (by omega) (by omega)).mono ?_
      clear m3
      rintro e w4 ⟨rfl, m4, b4⟩
      have HB4 := Lib.hid (HB3.out.trans b4)
      clear b4
      go_wp2_with fail
      have C := load1 m4 y y0 (by simp [HL.out]; exact y1) (by omega) (by omega)
      rw [getD_set_ne v (by omega), HZ.out] at C
      clear m4
      refine C.mono ?_
      clear C
      rintro e w5 ⟨rfl, m5, b5⟩
      have HB5 := Lib.hid (HB4.out.trans b5)
      clear b5
      go_wp2_with fail
      have C := load1 m5 x x0 (by simp [HL.out]; exact x1) (by omega) (by omega)
      rw [getD_set v xl] at C
      clear m5
      refine C.mono ?_
      clear C
      rintro e w6 ⟨rfl, m6, b6⟩
      have HB6 := Lib.hid (HB5.out.trans b6)
      have HM6 := Lib.hid m6
      clear b6 m6
      go_wp2_with (first
        | (go_at_call 9; refine (known _).mono ?_; rintro e w7 ⟨rfl, b7⟩; have C := cells1 (HM6.out.keep b7); have HB7 := Lib.hid (HB6.out.trans (b7.mono HB6.out.size)); clear b7)
        | (go_at_call 16; refine C.mono ?_; rintro e w8 ⟨rfl, _, b8⟩; have HB8 := Lib.hid (HB7.out.trans (b8.mono HB7.out.size)); clear b8 C))
      all_goals go_ret
      all_goals exact ⟨by simp [HL.out, ho], HB8.out⟩

end Go.Proofs.Yteebmcldmiemnaa
