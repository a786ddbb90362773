/-
  The walk of CellsSwaps: for all numbers it answers true and leaves all old memory as it was.
-/
import Derived.Test.YteebmcldmiemnaaCellsOne
namespace Go.Proofs.Yteebmcldmiemnaa
open Go.RowKit

theorem getD_set {L : List Int} {j : Nat} (x : Int) (h : j < L.length) : (L.set j x).getD j 0 = x := by simp [List.getD, h]

set_option maxRecDepth 100000 in
set_option maxHeartbeats 4000000 in
theorem swapsWalk (n t a b c : Int) (n0 : 0 ≤ n) (n1 : n ≤ 255) (t0 : 0 ≤ t) (t1 : t ≤ 255) (_ : -9223372036854775808 ≤ a) (_ : a ≤ 9223372036854775807) (_ : -9223372036854775808 ≤ b) (_ : b ≤ 9223372036854775807) (_ : -9223372036854775808 ≤ c) (_ : c ≤ 9223372036854775807) (w : World) :
    Calls Try.prog 7 #[.int .u8 n, .int .u8 t, .int .i64 a, .int .i64 b, .int .i64 c] w fun e w' => e = .returned (.bool true) ∧ Below w.heap.size w w' := by
  have hk := (show 1 ≤ 1 + n % 20 ∧ 1 + n % 20 ≤ 20 from by omega)
  by_cases hab : a = b
  · subst hab
    go_enter Try.func7, Try.ntmps7
    go_wp2_with fail
    generalize 1 + n % 20 = k at *
    obtain ⟨k0, k1⟩ := hk
    refine (new1 k w (by omega) (by omega)).mono ?_
    rintro e w1 ⟨rfl, m1, b1⟩
    have C := alloc1 m1 k (by omega) (by simp) (by omega) (by omega)
    have HB1 := Lib.hid (b1)
    clear b1 m1
    go_wp2_with fail
    refine C.mono ?_
    clear C
    rintro e w2 ⟨rfl, m2, b2⟩
    generalize hL : [] ++ List.replicate k.toNat (0 : Int) = L at m2
    have HL := Lib.hid (show (L.length : Int) = k by subst hL; simp; omega)
    clear hL
    have HB2 := Lib.hid (HB1.out.trans b2)
    clear b2
    have x0 : 0 ≤ t % k := Int.emod_nonneg _ (by omega)
    have x1 : t % k < k := Int.emod_lt_of_pos _ (by omega)
    go_wp2_with fail
    generalize t % k = x at *
    have xl : x.toNat < L.length := by have := HL.out; omega
    refine (store1 m2 x a x0 (by rw [HL.out]; exact x1) (by omega) (by omega)).mono ?_
    clear m2
    rintro e w3 ⟨rfl, m3, b3⟩
    have C := swap1 m3 x a a x0 (by simp [HL.out]; exact x1) (getD_set a xl) (by omega) (by omega)
    have HB3 := Lib.hid (HB2.out.trans b3)
    clear b3 m3
    go_wp2_with fail
    refine C.mono ?_
    clear C
    rintro e w4 ⟨rfl, m4, b4⟩
    have C := swap1 m4 x a c x0 (by simp [HL.out]; exact x1) (getD_set a (by simpa using xl)) (by omega) (by omega)
    have HB4 := Lib.hid (HB3.out.trans b4)
    clear b4 m4
    go_wp2_with fail
    refine C.mono ?_
    clear C
    rintro e w5 ⟨rfl, m5, b5⟩
    have C := load1 m5 x x0 (by simp [HL.out]; exact x1) (by omega) (by omega)
    rw [getD_set c (by simpa using xl)] at C
    have HB5 := Lib.hid (HB4.out.trans b5)
    clear b5 m5
    go_wp2_with fail
    refine C.mono ?_
    clear C
    rintro e w6 ⟨rfl, m6, b6⟩
    have C := swap1 m6 x c a x0 (by simp [HL.out]; exact x1) (getD_set c (by simpa using xl)) (by omega) (by omega)
    have HB6 := Lib.hid (HB5.out.trans b6)
    clear b6 m6
    go_wp2_with fail
    refine C.mono ?_
    clear C
    rintro e w7 ⟨rfl, m7, b7⟩
    have C := load1 m7 x x0 (by simp [HL.out]; exact x1) (by omega) (by omega)
    rw [getD_set a (by simpa using xl)] at C
    have HB7 := Lib.hid (HB6.out.trans b7)
    clear b7 m7
    go_wp2_with fail
    refine C.mono ?_
    clear C
    rintro e w8 ⟨rfl, m8, b8⟩
    have HB8 := Lib.hid (HB7.out.trans b8)
    clear b8 m8
    go_wp2_with (go_at_call 9; refine (known _).mono ?_; rintro e w9 ⟨rfl, b9⟩; have HB9 := Lib.hid (HB8.out.trans (b9.mono HB8.out.size)); clear b9)
    go_ret
    exact ⟨by simp, HB9.out⟩
  · skip
    go_enter Try.func7, Try.ntmps7
    go_wp2_with fail
    generalize 1 + n % 20 = k at *
    obtain ⟨k0, k1⟩ := hk
    refine (new1 k w (by omega) (by omega)).mono ?_
    rintro e w1 ⟨rfl, m1, b1⟩
    have C := alloc1 m1 k (by omega) (by simp) (by omega) (by omega)
    have HB1 := Lib.hid (b1)
    clear b1 m1
    go_wp2_with fail
    refine C.mono ?_
    clear C
    rintro e w2 ⟨rfl, m2, b2⟩
    generalize hL : [] ++ List.replicate k.toNat (0 : Int) = L at m2
    have HL := Lib.hid (show (L.length : Int) = k by subst hL; simp; omega)
    clear hL
    have HB2 := Lib.hid (HB1.out.trans b2)
    clear b2
    have x0 : 0 ≤ t % k := Int.emod_nonneg _ (by omega)
    have x1 : t % k < k := Int.emod_lt_of_pos _ (by omega)
    go_wp2_with fail
    generalize t % k = x at *
    have xl : x.toNat < L.length := by have := HL.out; omega
    refine (store1 m2 x a x0 (by rw [HL.out]; exact x1) (by omega) (by omega)).mono ?_
    clear m2
    rintro e w3 ⟨rfl, m3, b3⟩
    have C := swap1 m3 x a b x0 (by simp [HL.out]; exact x1) (getD_set a xl) (by omega) (by omega)
    have HB3 := Lib.hid (HB2.out.trans b3)
    clear b3 m3
    go_wp2_with fail
    refine C.mono ?_
    clear C
    rintro e w4 ⟨rfl, m4, b4⟩
    have C := swapNo1 m4 x a c x0 (by simp [HL.out]; exact x1) (by rw [getD_set b (by simpa using xl)]; exact fun e => hab e.symm) (by omega) (by omega)
    have HB4 := Lib.hid (HB3.out.trans b4)
    clear b4 m4
    go_wp2_with fail
    refine C.mono ?_
    clear C
    rintro e w5 ⟨rfl, m5, b5⟩
    have C := load1 m5 x x0 (by simp [HL.out]; exact x1) (by omega) (by omega)
    rw [getD_set b (by simpa using xl)] at C
    have HB5 := Lib.hid (HB4.out.trans b5)
    clear b5 m5
    go_wp2_with fail
    refine C.mono ?_
    clear C
    rintro e w6 ⟨rfl, m6, b6⟩
    have C := swap1 m6 x b a x0 (by simp [HL.out]; exact x1) (getD_set b (by simpa using xl)) (by omega) (by omega)
    have HB6 := Lib.hid (HB5.out.trans b6)
    clear b6 m6
    go_wp2_with fail
    refine C.mono ?_
    clear C
    rintro e w7 ⟨rfl, m7, b7⟩
    have C := load1 m7 x x0 (by simp [HL.out]; exact x1) (by omega) (by omega)
    rw [getD_set a (by simpa using xl)] at C
    have HB7 := Lib.hid (HB6.out.trans b7)
    clear b7 m7
    go_wp2_with fail
    refine C.mono ?_
    clear C
    rintro e w8 ⟨rfl, m8, b8⟩
    have HB8 := Lib.hid (HB7.out.trans b8)
    clear b8 m8
    go_wp2_with (go_at_call 9; refine (known _).mono ?_; rintro e w9 ⟨rfl, b9⟩; have HB9 := Lib.hid (HB8.out.trans (b9.mono HB8.out.size)); clear b9)
    go_ret
    exact ⟨by simp, HB9.out⟩

end Go.Proofs.Yteebmcldmiemnaa
