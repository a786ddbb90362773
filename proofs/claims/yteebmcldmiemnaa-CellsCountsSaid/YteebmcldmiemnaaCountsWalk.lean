/-
  The walk of CellsCounts: for all numbers and lists it answers true and leaves all old memory as it was.
-/
import Derived.Test.YteebmcldmiemnaaCellsMany
namespace Go.Proofs.Yteebmcldmiemnaa
open Go.RowKit

/-- What holds at each round's head. -/
def CountsRel (w : World) (k : Nat) (len : Nat) (t i : Value) (wr : World) : Prop :=
  ∃ j s : Nat, j ≤ len ∧ i = .int .i64 j ∧ t = .int .i64 s ∧ s ≤ j + 1 ∧ MemL wr w.heap.size w.heap.size k k s ∧ Below w.heap.size w wr

set_option maxRecDepth 100000 in
set_option maxHeartbeats 16000000 in
theorem countsWalk {w : World} (n : Int) (ao : Option Addr) (len cap : Nat) (zs : List Int) (v : Int) (n0 : 0 ≤ n) (n1 : n ≤ 255) (hz : Nums .u8 w ao len zs) (_ : -9223372036854775808 ≤ v) (_ : v ≤ 9223372036854775807) :
    Calls Try.prog 8 #[.int .u8 n, .slice ao len cap, .int .i64 v] w fun e w' => e = .returned (.bool true) ∧ Below w.heap.size w w' := by
  have hk := (show 1 ≤ 1 + n % 20 ∧ 1 + n % 20 ≤ 20 from by omega)
  have hm := hz.2.1
  unfold maxLen at hm
  have HZ := Lib.hid hz
  clear hz
  go_enter Try.func8, Try.ntmps8
  go_wp2_with fail
  generalize 1 + n % 20 = k at *
  obtain ⟨k0, k1⟩ := hk
  obtain ⟨k, rfl⟩ : ∃ K : Nat, k = (K : Int) := ⟨k.toNat, by omega⟩
  refine (new1 k w (by omega) (by omega)).mono ?_
  rintro e w1 ⟨rfl, m1, b1⟩
  have HB1 := Lib.hid b1
  have HM1 := Lib.hid m1
  clear b1 m1
  by_cases hlen : 100 < len
  · go_wp2_with (go_at_call 9; refine (known _).mono ?_; rintro e w2 ⟨rfl, b2⟩; have HB2 := Lib.hid (HB1.out.trans (b2.mono HB1.out.size)); clear b2)
    go_ret
    exact ⟨by simp, HB2.out⟩
  · have C := alloc1 HM1.out k (by omega) (by simp) (by omega) (by omega)
    clear HM1
    go_wp2_with fail
    refine C.mono ?_
    clear C
    rintro e w2 ⟨rfl, m2, b2⟩
    have HM2 := Lib.hid (show MemL w2 w.heap.size w.heap.size k k ((1 : Nat) : Int) from ⟨_, by simp, m2⟩)
    have HB2 := Lib.hid (HB1.out.trans b2)
    clear m2 b2
    go_wp2
    go_loopw [9, 10] (fun t i wr => CountsRel w k len t i wr) (fun _ i _ => len - (intOf i).toNat)
    case atStart => exact ⟨0, 1, Nat.zero_le _, rfl, rfl, by omega, HM2.out, HB2.out⟩
    case round =>
      obtain ⟨j, s, hj, rfl, rfl, hs, hM, hB⟩ := hrel
      have HMr := Lib.hid hM
      have HBr := Lib.hid hB
      clear hM hB
      by_cases hlt : j < len
      · obtain ⟨bb, off, rfl, lb, hcs⟩ := (HZ.out.1.keep HBr.out).2 (by omega)
        have cz := hcs j hlt
        clear hcs
        have hzl := HZ.out.1.1
        have hwz := bounds_u8 (HZ.out.2.2 (zs.getD j 0) (by simp [List.getD, hzl, hlt]))
        clear hzl
        generalize zs.getD j 0 = z at *
        obtain ⟨z0, z1⟩ := hwz
        have i0 : (j : Int) < len := by omega
        have a0 : 0 ≤ z / 3 % (k + 2) := Int.emod_nonneg _ (by omega)
        have a1 : z / 3 % (k + 2) < k + 2 := Int.emod_lt_of_pos _ (by omega)
        rcases (show (z % 3 = 0 ∧ z / 3 % (k + 2) < k) ∨ (z % 3 = 0 ∧ (k : Int) ≤ z / 3 % (k + 2)) ∨ (z % 3 = 1 ∧ z / 3 % (k + 2) < k) ∨ (z % 3 = 1 ∧ (k : Int) ≤ z / 3 % (k + 2)) ∨ (z % 3 = 2 ∧ z / 3 % (k + 2) < k) ∨ (z % 3 = 2 ∧ (k : Int) ≤ z / 3 % (k + 2)) from by omega) with ⟨h3, hr⟩ | ⟨h3, hr⟩ | ⟨h3, hr⟩ | ⟨h3, hr⟩ | ⟨h3, hr⟩ | ⟨h3, hr⟩
        · skip
          go_wp2_with fail
          generalize z / 3 % (k + 2) = a at *
          refine (loadLin HMr.out a a0 (by omega) (by omega) (by omega)).mono ?_
          rintro e w3 ⟨r, rfl, m3, b3⟩
          have T := topL m3
          have S := stepsL m3
          have HM3 := Lib.hid m3
          have HB3 := Lib.hid (HBr.out.trans b3)
          clear m3 b3
          go_wp2_with (first | (go_at_call 17; refine T.mono ?_; rintro e w' ⟨rfl, rfl⟩) | (go_at_call 18; refine S.mono ?_; rintro e w' ⟨rfl, rfl⟩))
          go_roundw
          case rel => exact ⟨j + 1, s + 1, by omega, by go_num, by go_num, by omega, HM3.out, HB3.out⟩
          case measure => simp [intOf]; omega
        · skip
          go_wp2_with fail
          generalize z / 3 % (k + 2) = a at *
          refine (loadLout HMr.out a (by omega)).mono ?_
          rintro e w3 ⟨r, rfl, m3, b3⟩
          have T := topL m3
          have S := stepsL m3
          have HM3 := Lib.hid m3
          have HB3 := Lib.hid (HBr.out.trans b3)
          clear m3 b3
          go_wp2_with (first | (go_at_call 17; refine T.mono ?_; rintro e w' ⟨rfl, rfl⟩) | (go_at_call 18; refine S.mono ?_; rintro e w' ⟨rfl, rfl⟩))
          go_roundw
          case rel => exact ⟨j + 1, s, by omega, by go_num, by go_num, by omega, HM3.out, HB3.out⟩
          case measure => simp [intOf]; omega
        · skip
          go_wp2_with fail
          generalize z / 3 % (k + 2) = a at *
          refine (storeLin HMr.out a v a0 (by omega) (by omega) (by omega)).mono ?_
          rintro e w3 ⟨r, rfl, m3, b3⟩
          have T := topL m3
          have S := stepsL m3
          have HM3 := Lib.hid m3
          have HB3 := Lib.hid (HBr.out.trans b3)
          clear m3 b3
          go_wp2_with (first | (go_at_call 17; refine T.mono ?_; rintro e w' ⟨rfl, rfl⟩) | (go_at_call 18; refine S.mono ?_; rintro e w' ⟨rfl, rfl⟩))
          go_roundw
          case rel => exact ⟨j + 1, s + 1, by omega, by go_num, by go_num, by omega, HM3.out, HB3.out⟩
          case measure => simp [intOf]; omega
        · skip
          go_wp2_with fail
          generalize z / 3 % (k + 2) = a at *
          refine (storeLout HMr.out a v (by omega)).mono ?_
          rintro e w3 ⟨r, rfl, m3, b3⟩
          have T := topL m3
          have S := stepsL m3
          have HM3 := Lib.hid m3
          have HB3 := Lib.hid (HBr.out.trans b3)
          clear m3 b3
          go_wp2_with (first | (go_at_call 17; refine T.mono ?_; rintro e w' ⟨rfl, rfl⟩) | (go_at_call 18; refine S.mono ?_; rintro e w' ⟨rfl, rfl⟩))
          go_roundw
          case rel => exact ⟨j + 1, s, by omega, by go_num, by go_num, by omega, HM3.out, HB3.out⟩
          case measure => simp [intOf]; omega
        · skip
          go_wp2_with fail
          generalize z / 3 % (k + 2) = a at *
          refine (swapLin HMr.out a v j a0 (by omega) (by omega) (by omega)).mono ?_
          rintro e w3 ⟨r, rfl, m3, b3⟩
          have T := topL m3
          have S := stepsL m3
          have HM3 := Lib.hid m3
          have HB3 := Lib.hid (HBr.out.trans b3)
          clear m3 b3
          go_wp2_with (first | (go_at_call 17; refine T.mono ?_; rintro e w' ⟨rfl, rfl⟩) | (go_at_call 18; refine S.mono ?_; rintro e w' ⟨rfl, rfl⟩))
          go_roundw
          case rel => exact ⟨j + 1, s + 1, by omega, by go_num, by go_num, by omega, HM3.out, HB3.out⟩
          case measure => simp [intOf]; omega
        · skip
          go_wp2_with fail
          generalize z / 3 % (k + 2) = a at *
          refine (swapLout HMr.out a v j (by omega)).mono ?_
          rintro e w3 ⟨r, rfl, m3, b3⟩
          have T := topL m3
          have S := stepsL m3
          have HM3 := Lib.hid m3
          have HB3 := Lib.hid (HBr.out.trans b3)
          clear m3 b3
          go_wp2_with (first | (go_at_call 17; refine T.mono ?_; rintro e w' ⟨rfl, rfl⟩) | (go_at_call 18; refine S.mono ?_; rintro e w' ⟨rfl, rfl⟩))
          go_roundw
          case rel => exact ⟨j + 1, s, by omega, by go_num, by go_num, by omega, HM3.out, HB3.out⟩
          case measure => simp [intOf]; omega
      · clear HZ
        obtain ⟨L, hL, mL⟩ := HMr.out
        have HLk := Lib.hid hL
        have HL := Lib.hid mL
        clear mL hL HMr
        go_wp2_with fail
        refine (known wr).mono ?_
        rintro e w3 ⟨rfl, b3⟩
        have C := cells1 (HL.out.keep b3)
        have HX3 := Lib.hid b3
        clear b3
        go_wp2_with fail
        refine C.mono ?_
        clear C
        rintro e w4 ⟨rfl, o4, b4⟩
        have HX4 := Lib.hid (HX3.out.trans (b4.mono HX3.out.size))
        have R4 := Lib.hid (reads_own o4)
        clear o4 b4
        have C := copy1 (HL.out.keep HX4.out)
        go_wp2_with fail
        refine C.mono ?_
        clear C
        rintro e w5 ⟨q, rfl, m5, b5⟩
        have C := cellsAny m5
        have HX5 := Lib.hid (HX4.out.trans (b5.mono HX4.out.size))
        have R5 := Lib.hid (R4.out.keep b5)
        clear b5 m5
        go_wp2_with fail
        refine C.mono ?_
        clear C
        rintro e w6 ⟨rfl, o6, b6⟩
        have HX6 := Lib.hid (HX5.out.trans (b6.mono HX5.out.size))
        have C := sameEq w6 _ _ L.length L.length L.length L (R5.out.keep b6) (reads_own o6) (by have := HLk.out; omega)
        clear b6 o6
        go_wp2_with fail
        refine C.mono ?_
        clear C
        rintro e w7 ⟨rfl, b7⟩
        have HX7 := Lib.hid (HX6.out.trans (b7.mono HX6.out.size))
        clear b7
        have S := steps1 (HL.out.keep HX7.out)
        go_wp2_with fail
        refine S.mono ?_
        clear S
        rintro e w' ⟨rfl, rfl⟩
        go_wp2
        go_ret
        exact ⟨by simp, HBr.out.trans (HX7.out.mono HBr.out.size)⟩

end Go.Proofs.Yteebmcldmiemnaa
