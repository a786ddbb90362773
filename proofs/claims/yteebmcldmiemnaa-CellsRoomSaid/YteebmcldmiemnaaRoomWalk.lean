/-
  The walk of CellsRoom: for all numbers and lists it answers true and leaves all old memory as it was.
-/
import Derived.Test.YteebmcldmiemnaaCellsMany
namespace Go.Proofs.Yteebmcldmiemnaa
open Go.RowKit

/-- What holds at each round's head: TOP, the steps, the counter. -/
def RoomRel (w : World) (s : Int) (len : Nat) (t c i : Value) (wr : World) : Prop :=
  ∃ j top st : Nat, j ≤ len ∧ i = .int .i64 j ∧ t = .int .i64 top ∧ c = .int .i64 st ∧ st ≤ j ∧ (top : Int) ≤ s ∧ MemL wr w.heap.size w.heap.size s top st ∧ Below w.heap.size w wr

set_option maxRecDepth 100000 in
set_option maxHeartbeats 16000000 in
theorem room0 {w : World} (n : Int) (ao : Option Addr) (len cap : Nat) (zs : List Int) (q : Int) (hn : n ≤ 0) (hz : Nums .u8 w ao len zs) :
    Calls Try.prog 5 #[.int .i64 n, .slice ao len cap, .int .i64 q] w fun e w' => e = .returned (.bool true) ∧ Below w.heap.size w w' := by
  have hm := hz.2.1
  unfold maxLen at hm
  have HZ := Lib.hid hz
  clear hz
  have C := newAny n w
  have e0 : sizeOf' n = 0 := by unfold sizeOf'; (repeat' split) <;> omega
  rw [e0] at C
  clear e0
  go_enter Try.func5, Try.ntmps5
  go_wp2_with fail
  refine C.mono ?_
  clear C
  rintro e w1 ⟨rfl, m1, b1⟩
  have HB1 := Lib.hid b1
  have HM1 := Lib.hid (show MemL w1 w.heap.size w.heap.size 0 0 ((0 : Nat) : Int) from ⟨_, rfl, _, m1⟩)
  clear b1 m1
  by_cases hlen : 60 < len
  · go_wp2_with (go_at_call 9; refine (known _).mono ?_; rintro e w2 ⟨rfl, b2⟩; have HB2 := Lib.hid (HB1.out.trans (b2.mono HB1.out.size)); clear b2)
    go_ret
    exact ⟨by simp, HB2.out⟩
  · go_wp2_with fail
    go_loopw [9, 10, 11] (fun t c i wr => RoomRel w 0 len t c i wr) (fun _ _ i _ => len - (intOf i).toNat)
    case atStart => exact ⟨0, 0, 0, Nat.zero_le _, rfl, rfl, rfl, by omega, by omega, HM1.out, HB1.out⟩
    case round =>
      obtain ⟨j, top, st, hj, rfl, rfl, rfl, hs, ht, hM, hB⟩ := hrel
      have HMr := Lib.hid hM
      have HBr := Lib.hid hB
      clear hM hB HM1
      by_cases hlt : j < len
      · obtain ⟨bb, off, rfl, lb, hcs⟩ := (HZ.out.1.keep HBr.out).2 (by omega)
        have cz := hcs j hlt
        clear hcs
        have hzl := HZ.out.1.1
        have hwz := bounds_u8 (HZ.out.2.2 (zs.getD j 0) (by simp [List.getD, hzl, hlt]))
        clear hzl
        generalize zs.getD j 0 = z at *
        obtain ⟨z0, z1⟩ := hwz
        have i0 : (j : Int) < len := by omega
        have a0 : 0 ≤ z % 32 := by omega
        have a1 : z % 32 < 32 := by omega
        by_cases hr : (top : Int) + z % 32 ≤ 0
        · go_wp2_with fail
          generalize z % 32 = c at *
          refine (allocL HMr.out c a0 (by omega) (by omega) (by omega)).mono ?_
          rintro e w3 ⟨rfl, m3, b3⟩
          have HM3 := Lib.hid m3
          have HB3 := Lib.hid (HBr.out.trans b3)
          clear m3 b3
          go_wp2
          go_roundw
          case rel => exact ⟨j + 1, top + c.toNat, st + 1, by omega, by go_num, by go_num, by go_num, by omega, by omega, HM3.out, HB3.out⟩
          case measure => simp [intOf]; omega
        · have hr' : 0 - (top : Int) < z % 32 := by omega
          go_wp2_with fail
          generalize z % 32 = c at *
          refine (allocLfull HMr.out c a0 (by omega)).mono ?_
          rintro e w3 ⟨rfl, m3, b3⟩
          have HM3 := Lib.hid m3
          have HB3 := Lib.hid (HBr.out.trans b3)
          clear m3 b3
          go_wp2
          go_roundw
          case rel => exact ⟨j + 1, top, st, by omega, by go_num, rfl, rfl, by omega, by omega, HM3.out, HB3.out⟩
          case measure => simp [intOf]; omega
      · clear HZ
        go_wp2_with fail
        refine (loadLno HMr.out top (.inr (by omega))).mono ?_
        rintro e w3 ⟨rfl, m3, b3⟩
        have HM3 := Lib.hid m3
        have HB3 := Lib.hid (HBr.out.trans b3)
        clear m3 b3
        go_wp2_with fail
        refine (storeLno HM3.out (-1) 5 (.inl (by omega))).mono ?_
        rintro e w4 ⟨rfl, m4, b4⟩
        have HM4 := Lib.hid m4
        have HB4 := Lib.hid (HB3.out.trans b4)
        clear m4 b4
        go_wp2_with fail
        rcases (show q < 0 ∨ (0 ≤ q ∧ (top : Int) ≤ q) ∨ (0 ≤ q ∧ q < top) from by omega) with hq | ⟨hq, hq'⟩ | ⟨hq, hq'⟩
        · refine (swapLno HM4.out q 0 0 (.inl hq)).mono ?_
          rintro e w5 ⟨rfl, m5, b5⟩
          have HM5 := Lib.hid m5
          have HB5 := Lib.hid (HB4.out.trans b5)
          clear m5 b5
          go_wp2_with fail
          refine (allocLneg HM5.out (-1) (by omega)).mono ?_
          rintro e w6 ⟨rfl, m6, b6⟩
          have HM6 := Lib.hid m6
          have HB6 := Lib.hid (HB5.out.trans b6)
          clear m6 b6
          go_wp2_with fail
          refine (known w6).mono ?_
          rintro e w7 ⟨rfl, b7⟩
          obtain ⟨L, hL, mL⟩ := HM6.out
          have m7 : MemL w7 w.heap.size w.heap.size _ top _ := ⟨L, hL, mL.keep b7⟩
          have T := topL m7
          have S := stepsL m7
          have HB7 := Lib.hid (HB6.out.trans (b7.mono HB6.out.size))
          clear m7 b7 mL hL
          go_wp2_with (first | (go_at_call 17; refine T.mono ?_; rintro e w' ⟨rfl, rfl⟩) | (go_at_call 18; refine S.mono ?_; rintro e w' ⟨rfl, rfl⟩))
          go_ret
          exact ⟨by simp <;> omega, HB7.out⟩
        · refine (swapLno HM4.out q 0 0 (.inr hq')).mono ?_
          rintro e w5 ⟨rfl, m5, b5⟩
          have HM5 := Lib.hid m5
          have HB5 := Lib.hid (HB4.out.trans b5)
          clear m5 b5
          go_wp2_with fail
          refine (allocLneg HM5.out (-1) (by omega)).mono ?_
          rintro e w6 ⟨rfl, m6, b6⟩
          have HM6 := Lib.hid m6
          have HB6 := Lib.hid (HB5.out.trans b6)
          clear m6 b6
          go_wp2_with fail
          refine (known w6).mono ?_
          rintro e w7 ⟨rfl, b7⟩
          obtain ⟨L, hL, mL⟩ := HM6.out
          have m7 : MemL w7 w.heap.size w.heap.size _ top _ := ⟨L, hL, mL.keep b7⟩
          have T := topL m7
          have S := stepsL m7
          have HB7 := Lib.hid (HB6.out.trans (b7.mono HB6.out.size))
          clear m7 b7 mL hL
          go_wp2_with (first | (go_at_call 17; refine T.mono ?_; rintro e w' ⟨rfl, rfl⟩) | (go_at_call 18; refine S.mono ?_; rintro e w' ⟨rfl, rfl⟩))
          go_ret
          exact ⟨by simp <;> omega, HB7.out⟩
        · refine (swapLyes HM4.out q 0 0 hq hq' (by omega) (by omega)).mono ?_
          rintro e w5 ⟨is, rfl, m5, b5⟩
          have HM5 := Lib.hid m5
          have HB5 := Lib.hid (HB4.out.trans b5)
          clear m5 b5
          go_wp2_with fail
          refine (allocLneg HM5.out (-1) (by omega)).mono ?_
          rintro e w6 ⟨rfl, m6, b6⟩
          have HM6 := Lib.hid m6
          have HB6 := Lib.hid (HB5.out.trans b6)
          clear m6 b6
          go_wp2_with fail
          refine (known w6).mono ?_
          rintro e w7 ⟨rfl, b7⟩
          obtain ⟨L, hL, mL⟩ := HM6.out
          have m7 : MemL w7 w.heap.size w.heap.size _ top _ := ⟨L, hL, mL.keep b7⟩
          have T := topL m7
          have S := stepsL m7
          have HB7 := Lib.hid (HB6.out.trans (b7.mono HB6.out.size))
          clear m7 b7 mL hL
          go_wp2_with (first | (go_at_call 17; refine T.mono ?_; rintro e w' ⟨rfl, rfl⟩) | (go_at_call 18; refine S.mono ?_; rintro e w' ⟨rfl, rfl⟩))
          go_ret
          exact ⟨by simp <;> omega, HB7.out⟩

set_option maxRecDepth 100000 in
set_option maxHeartbeats 16000000 in
theorem room1000 {w : World} (n : Int) (ao : Option Addr) (len cap : Nat) (zs : List Int) (q : Int) (hn : 1000 < n) (hz : Nums .u8 w ao len zs) :
    Calls Try.prog 5 #[.int .i64 n, .slice ao len cap, .int .i64 q] w fun e w' => e = .returned (.bool true) ∧ Below w.heap.size w w' := by
  have hm := hz.2.1
  unfold maxLen at hm
  have HZ := Lib.hid hz
  clear hz
  have C := newAny n w
  have e0 : sizeOf' n = 1000 := by unfold sizeOf'; (repeat' split) <;> omega
  rw [e0] at C
  clear e0
  go_enter Try.func5, Try.ntmps5
  go_wp2_with fail
  refine C.mono ?_
  clear C
  rintro e w1 ⟨rfl, m1, b1⟩
  have HB1 := Lib.hid b1
  have HM1 := Lib.hid (show MemL w1 w.heap.size w.heap.size 1000 0 ((0 : Nat) : Int) from ⟨_, rfl, _, m1⟩)
  clear b1 m1
  by_cases hlen : 60 < len
  · go_wp2_with (go_at_call 9; refine (known _).mono ?_; rintro e w2 ⟨rfl, b2⟩; have HB2 := Lib.hid (HB1.out.trans (b2.mono HB1.out.size)); clear b2)
    go_ret
    exact ⟨by simp, HB2.out⟩
  · go_wp2_with fail
    go_loopw [9, 10, 11] (fun t c i wr => RoomRel w 1000 len t c i wr) (fun _ _ i _ => len - (intOf i).toNat)
    case atStart => exact ⟨0, 0, 0, Nat.zero_le _, rfl, rfl, rfl, by omega, by omega, HM1.out, HB1.out⟩
    case round =>
      obtain ⟨j, top, st, hj, rfl, rfl, rfl, hs, ht, hM, hB⟩ := hrel
      have HMr := Lib.hid hM
      have HBr := Lib.hid hB
      clear hM hB HM1
      by_cases hlt : j < len
      · obtain ⟨bb, off, rfl, lb, hcs⟩ := (HZ.out.1.keep HBr.out).2 (by omega)
        have cz := hcs j hlt
        clear hcs
        have hzl := HZ.out.1.1
        have hwz := bounds_u8 (HZ.out.2.2 (zs.getD j 0) (by simp [List.getD, hzl, hlt]))
        clear hzl
        generalize zs.getD j 0 = z at *
        obtain ⟨z0, z1⟩ := hwz
        have i0 : (j : Int) < len := by omega
        have a0 : 0 ≤ z % 32 := by omega
        have a1 : z % 32 < 32 := by omega
        by_cases hr : (top : Int) + z % 32 ≤ 1000
        · go_wp2_with fail
          generalize z % 32 = c at *
          refine (allocL HMr.out c a0 (by omega) (by omega) (by omega)).mono ?_
          rintro e w3 ⟨rfl, m3, b3⟩
          have HM3 := Lib.hid m3
          have HB3 := Lib.hid (HBr.out.trans b3)
          clear m3 b3
          go_wp2
          go_roundw
          case rel => exact ⟨j + 1, top + c.toNat, st + 1, by omega, by go_num, by go_num, by go_num, by omega, by omega, HM3.out, HB3.out⟩
          case measure => simp [intOf]; omega
        · have hr' : 1000 - (top : Int) < z % 32 := by omega
          go_wp2_with fail
          generalize z % 32 = c at *
          refine (allocLfull HMr.out c a0 (by omega)).mono ?_
          rintro e w3 ⟨rfl, m3, b3⟩
          have HM3 := Lib.hid m3
          have HB3 := Lib.hid (HBr.out.trans b3)
          clear m3 b3
          go_wp2
          go_roundw
          case rel => exact ⟨j + 1, top, st, by omega, by go_num, rfl, rfl, by omega, by omega, HM3.out, HB3.out⟩
          case measure => simp [intOf]; omega
      · clear HZ
        go_wp2_with fail
        refine (loadLno HMr.out top (.inr (by omega))).mono ?_
        rintro e w3 ⟨rfl, m3, b3⟩
        have HM3 := Lib.hid m3
        have HB3 := Lib.hid (HBr.out.trans b3)
        clear m3 b3
        go_wp2_with fail
        refine (storeLno HM3.out (-1) 5 (.inl (by omega))).mono ?_
        rintro e w4 ⟨rfl, m4, b4⟩
        have HM4 := Lib.hid m4
        have HB4 := Lib.hid (HB3.out.trans b4)
        clear m4 b4
        go_wp2_with fail
        rcases (show q < 0 ∨ (0 ≤ q ∧ (top : Int) ≤ q) ∨ (0 ≤ q ∧ q < top) from by omega) with hq | ⟨hq, hq'⟩ | ⟨hq, hq'⟩
        · refine (swapLno HM4.out q 0 0 (.inl hq)).mono ?_
          rintro e w5 ⟨rfl, m5, b5⟩
          have HM5 := Lib.hid m5
          have HB5 := Lib.hid (HB4.out.trans b5)
          clear m5 b5
          go_wp2_with fail
          refine (allocLneg HM5.out (-1) (by omega)).mono ?_
          rintro e w6 ⟨rfl, m6, b6⟩
          have HM6 := Lib.hid m6
          have HB6 := Lib.hid (HB5.out.trans b6)
          clear m6 b6
          go_wp2_with fail
          refine (known w6).mono ?_
          rintro e w7 ⟨rfl, b7⟩
          obtain ⟨L, hL, mL⟩ := HM6.out
          have m7 : MemL w7 w.heap.size w.heap.size _ top _ := ⟨L, hL, mL.keep b7⟩
          have T := topL m7
          have S := stepsL m7
          have HB7 := Lib.hid (HB6.out.trans (b7.mono HB6.out.size))
          clear m7 b7 mL hL
          go_wp2_with (first | (go_at_call 17; refine T.mono ?_; rintro e w' ⟨rfl, rfl⟩) | (go_at_call 18; refine S.mono ?_; rintro e w' ⟨rfl, rfl⟩))
          go_ret
          exact ⟨by simp <;> omega, HB7.out⟩
        · refine (swapLno HM4.out q 0 0 (.inr hq')).mono ?_
          rintro e w5 ⟨rfl, m5, b5⟩
          have HM5 := Lib.hid m5
          have HB5 := Lib.hid (HB4.out.trans b5)
          clear m5 b5
          go_wp2_with fail
          refine (allocLneg HM5.out (-1) (by omega)).mono ?_
          rintro e w6 ⟨rfl, m6, b6⟩
          have HM6 := Lib.hid m6
          have HB6 := Lib.hid (HB5.out.trans b6)
          clear m6 b6
          go_wp2_with fail
          refine (known w6).mono ?_
          rintro e w7 ⟨rfl, b7⟩
          obtain ⟨L, hL, mL⟩ := HM6.out
          have m7 : MemL w7 w.heap.size w.heap.size _ top _ := ⟨L, hL, mL.keep b7⟩
          have T := topL m7
          have S := stepsL m7
          have HB7 := Lib.hid (HB6.out.trans (b7.mono HB6.out.size))
          clear m7 b7 mL hL
          go_wp2_with (first | (go_at_call 17; refine T.mono ?_; rintro e w' ⟨rfl, rfl⟩) | (go_at_call 18; refine S.mono ?_; rintro e w' ⟨rfl, rfl⟩))
          go_ret
          exact ⟨by simp <;> omega, HB7.out⟩
        · refine (swapLyes HM4.out q 0 0 hq hq' (by omega) (by omega)).mono ?_
          rintro e w5 ⟨is, rfl, m5, b5⟩
          have HM5 := Lib.hid m5
          have HB5 := Lib.hid (HB4.out.trans b5)
          clear m5 b5
          go_wp2_with fail
          refine (allocLneg HM5.out (-1) (by omega)).mono ?_
          rintro e w6 ⟨rfl, m6, b6⟩
          have HM6 := Lib.hid m6
          have HB6 := Lib.hid (HB5.out.trans b6)
          clear m6 b6
          go_wp2_with fail
          refine (known w6).mono ?_
          rintro e w7 ⟨rfl, b7⟩
          obtain ⟨L, hL, mL⟩ := HM6.out
          have m7 : MemL w7 w.heap.size w.heap.size _ top _ := ⟨L, hL, mL.keep b7⟩
          have T := topL m7
          have S := stepsL m7
          have HB7 := Lib.hid (HB6.out.trans (b7.mono HB6.out.size))
          clear m7 b7 mL hL
          go_wp2_with (first | (go_at_call 17; refine T.mono ?_; rintro e w' ⟨rfl, rfl⟩) | (go_at_call 18; refine S.mono ?_; rintro e w' ⟨rfl, rfl⟩))
          go_ret
          exact ⟨by simp <;> omega, HB7.out⟩

set_option maxRecDepth 100000 in
set_option maxHeartbeats 16000000 in
theorem roomK {w : World} (n : Int) (ao : Option Addr) (len cap : Nat) (zs : List Int) (q : Int) (hn : n = 1000) (hz : Nums .u8 w ao len zs) :
    Calls Try.prog 5 #[.int .i64 n, .slice ao len cap, .int .i64 q] w fun e w' => e = .returned (.bool true) ∧ Below w.heap.size w w' := by
  have hm := hz.2.1
  unfold maxLen at hm
  have HZ := Lib.hid hz
  clear hz
  have C := newAny n w
  have e0 : sizeOf' n = 1000 := by unfold sizeOf'; (repeat' split) <;> omega
  rw [e0] at C
  clear e0
  subst hn
  go_enter Try.func5, Try.ntmps5
  go_wp2_with fail
  refine C.mono ?_
  clear C
  rintro e w1 ⟨rfl, m1, b1⟩
  have HB1 := Lib.hid b1
  have HM1 := Lib.hid (show MemL w1 w.heap.size w.heap.size 1000 0 ((0 : Nat) : Int) from ⟨_, rfl, _, m1⟩)
  clear b1 m1
  by_cases hlen : 60 < len
  · go_wp2_with (go_at_call 9; refine (known _).mono ?_; rintro e w2 ⟨rfl, b2⟩; have HB2 := Lib.hid (HB1.out.trans (b2.mono HB1.out.size)); clear b2)
    go_ret
    exact ⟨by simp, HB2.out⟩
  · go_wp2_with fail
    go_loopw [9, 10, 11] (fun t c i wr => RoomRel w 1000 len t c i wr) (fun _ _ i _ => len - (intOf i).toNat)
    case atStart => exact ⟨0, 0, 0, Nat.zero_le _, rfl, rfl, rfl, by omega, by omega, HM1.out, HB1.out⟩
    case round =>
      obtain ⟨j, top, st, hj, rfl, rfl, rfl, hs, ht, hM, hB⟩ := hrel
      have HMr := Lib.hid hM
      have HBr := Lib.hid hB
      clear hM hB HM1
      by_cases hlt : j < len
      · obtain ⟨bb, off, rfl, lb, hcs⟩ := (HZ.out.1.keep HBr.out).2 (by omega)
        have cz := hcs j hlt
        clear hcs
        have hzl := HZ.out.1.1
        have hwz := bounds_u8 (HZ.out.2.2 (zs.getD j 0) (by simp [List.getD, hzl, hlt]))
        clear hzl
        generalize zs.getD j 0 = z at *
        obtain ⟨z0, z1⟩ := hwz
        have i0 : (j : Int) < len := by omega
        have a0 : 0 ≤ z % 32 := by omega
        have a1 : z % 32 < 32 := by omega
        by_cases hr : (top : Int) + z % 32 ≤ 1000
        · go_wp2_with fail
          generalize z % 32 = c at *
          refine (allocL HMr.out c a0 (by omega) (by omega) (by omega)).mono ?_
          rintro e w3 ⟨rfl, m3, b3⟩
          have HM3 := Lib.hid m3
          have HB3 := Lib.hid (HBr.out.trans b3)
          clear m3 b3
          go_wp2
          go_roundw
          case rel => exact ⟨j + 1, top + c.toNat, st + 1, by omega, by go_num, by go_num, by go_num, by omega, by omega, HM3.out, HB3.out⟩
          case measure => simp [intOf]; omega
        · have hr' : 1000 - (top : Int) < z % 32 := by omega
          go_wp2_with fail
          generalize z % 32 = c at *
          refine (allocLfull HMr.out c a0 (by omega)).mono ?_
          rintro e w3 ⟨rfl, m3, b3⟩
          have HM3 := Lib.hid m3
          have HB3 := Lib.hid (HBr.out.trans b3)
          clear m3 b3
          go_wp2
          go_roundw
          case rel => exact ⟨j + 1, top, st, by omega, by go_num, rfl, rfl, by omega, by omega, HM3.out, HB3.out⟩
          case measure => simp [intOf]; omega
      · clear HZ
        go_wp2_with fail
        refine (loadLno HMr.out top (.inr (by omega))).mono ?_
        rintro e w3 ⟨rfl, m3, b3⟩
        have HM3 := Lib.hid m3
        have HB3 := Lib.hid (HBr.out.trans b3)
        clear m3 b3
        go_wp2_with fail
        refine (storeLno HM3.out (-1) 5 (.inl (by omega))).mono ?_
        rintro e w4 ⟨rfl, m4, b4⟩
        have HM4 := Lib.hid m4
        have HB4 := Lib.hid (HB3.out.trans b4)
        clear m4 b4
        go_wp2_with fail
        rcases (show q < 0 ∨ (0 ≤ q ∧ (top : Int) ≤ q) ∨ (0 ≤ q ∧ q < top) from by omega) with hq | ⟨hq, hq'⟩ | ⟨hq, hq'⟩
        · refine (swapLno HM4.out q 0 0 (.inl hq)).mono ?_
          rintro e w5 ⟨rfl, m5, b5⟩
          have HM5 := Lib.hid m5
          have HB5 := Lib.hid (HB4.out.trans b5)
          clear m5 b5
          go_wp2_with fail
          refine (allocLneg HM5.out (-1) (by omega)).mono ?_
          rintro e w6 ⟨rfl, m6, b6⟩
          have HM6 := Lib.hid m6
          have HB6 := Lib.hid (HB5.out.trans b6)
          clear m6 b6
          go_wp2_with fail
          refine (known w6).mono ?_
          rintro e w7 ⟨rfl, b7⟩
          obtain ⟨L, hL, mL⟩ := HM6.out
          have m7 : MemL w7 w.heap.size w.heap.size _ top _ := ⟨L, hL, mL.keep b7⟩
          have T := topL m7
          have S := stepsL m7
          have HB7 := Lib.hid (HB6.out.trans (b7.mono HB6.out.size))
          clear m7 b7 mL hL
          go_wp2_with (first | (go_at_call 17; refine T.mono ?_; rintro e w' ⟨rfl, rfl⟩) | (go_at_call 18; refine S.mono ?_; rintro e w' ⟨rfl, rfl⟩))
          go_ret
          exact ⟨by simp <;> omega, HB7.out⟩
        · refine (swapLno HM4.out q 0 0 (.inr hq')).mono ?_
          rintro e w5 ⟨rfl, m5, b5⟩
          have HM5 := Lib.hid m5
          have HB5 := Lib.hid (HB4.out.trans b5)
          clear m5 b5
          go_wp2_with fail
          refine (allocLneg HM5.out (-1) (by omega)).mono ?_
          rintro e w6 ⟨rfl, m6, b6⟩
          have HM6 := Lib.hid m6
          have HB6 := Lib.hid (HB5.out.trans b6)
          clear m6 b6
          go_wp2_with fail
          refine (known w6).mono ?_
          rintro e w7 ⟨rfl, b7⟩
          obtain ⟨L, hL, mL⟩ := HM6.out
          have m7 : MemL w7 w.heap.size w.heap.size _ top _ := ⟨L, hL, mL.keep b7⟩
          have T := topL m7
          have S := stepsL m7
          have HB7 := Lib.hid (HB6.out.trans (b7.mono HB6.out.size))
          clear m7 b7 mL hL
          go_wp2_with (first | (go_at_call 17; refine T.mono ?_; rintro e w' ⟨rfl, rfl⟩) | (go_at_call 18; refine S.mono ?_; rintro e w' ⟨rfl, rfl⟩))
          go_ret
          exact ⟨by simp <;> omega, HB7.out⟩
        · refine (swapLyes HM4.out q 0 0 hq hq' (by omega) (by omega)).mono ?_
          rintro e w5 ⟨is, rfl, m5, b5⟩
          have HM5 := Lib.hid m5
          have HB5 := Lib.hid (HB4.out.trans b5)
          clear m5 b5
          go_wp2_with fail
          refine (allocLneg HM5.out (-1) (by omega)).mono ?_
          rintro e w6 ⟨rfl, m6, b6⟩
          have HM6 := Lib.hid m6
          have HB6 := Lib.hid (HB5.out.trans b6)
          clear m6 b6
          go_wp2_with fail
          refine (known w6).mono ?_
          rintro e w7 ⟨rfl, b7⟩
          obtain ⟨L, hL, mL⟩ := HM6.out
          have m7 : MemL w7 w.heap.size w.heap.size _ top _ := ⟨L, hL, mL.keep b7⟩
          have T := topL m7
          have S := stepsL m7
          have HB7 := Lib.hid (HB6.out.trans (b7.mono HB6.out.size))
          clear m7 b7 mL hL
          go_wp2_with (first | (go_at_call 17; refine T.mono ?_; rintro e w' ⟨rfl, rfl⟩) | (go_at_call 18; refine S.mono ?_; rintro e w' ⟨rfl, rfl⟩))
          go_ret
          exact ⟨by simp <;> omega, HB7.out⟩

set_option maxRecDepth 100000 in
set_option maxHeartbeats 16000000 in
theorem roomN {w : World} (n : Int) (ao : Option Addr) (len cap : Nat) (zs : List Int) (q : Int) (hn : 0 < n ∧ n < 1000) (hz : Nums .u8 w ao len zs) :
    Calls Try.prog 5 #[.int .i64 n, .slice ao len cap, .int .i64 q] w fun e w' => e = .returned (.bool true) ∧ Below w.heap.size w w' := by
  have hm := hz.2.1
  unfold maxLen at hm
  have HZ := Lib.hid hz
  clear hz
  have C := newAny n w
  have e0 : sizeOf' n = n := by unfold sizeOf'; (repeat' split) <;> omega
  rw [e0] at C
  clear e0
  obtain ⟨hn0, hn1⟩ := hn
  go_enter Try.func5, Try.ntmps5
  go_wp2_with fail
  refine C.mono ?_
  clear C
  rintro e w1 ⟨rfl, m1, b1⟩
  have HB1 := Lib.hid b1
  have HM1 := Lib.hid (show MemL w1 w.heap.size w.heap.size n 0 ((0 : Nat) : Int) from ⟨_, rfl, _, m1⟩)
  clear b1 m1
  by_cases hlen : 60 < len
  · go_wp2_with (go_at_call 9; refine (known _).mono ?_; rintro e w2 ⟨rfl, b2⟩; have HB2 := Lib.hid (HB1.out.trans (b2.mono HB1.out.size)); clear b2)
    go_ret
    exact ⟨by simp, HB2.out⟩
  · go_wp2_with fail
    go_loopw [9, 10, 11] (fun t c i wr => RoomRel w n len t c i wr) (fun _ _ i _ => len - (intOf i).toNat)
    case atStart => exact ⟨0, 0, 0, Nat.zero_le _, rfl, rfl, rfl, by omega, by omega, HM1.out, HB1.out⟩
    case round =>
      obtain ⟨j, top, st, hj, rfl, rfl, rfl, hs, ht, hM, hB⟩ := hrel
      have HMr := Lib.hid hM
      have HBr := Lib.hid hB
      clear hM hB HM1
      by_cases hlt : j < len
      · obtain ⟨bb, off, rfl, lb, hcs⟩ := (HZ.out.1.keep HBr.out).2 (by omega)
        have cz := hcs j hlt
        clear hcs
        have hzl := HZ.out.1.1
        have hwz := bounds_u8 (HZ.out.2.2 (zs.getD j 0) (by simp [List.getD, hzl, hlt]))
        clear hzl
        generalize zs.getD j 0 = z at *
        obtain ⟨z0, z1⟩ := hwz
        have i0 : (j : Int) < len := by omega
        have a0 : 0 ≤ z % 32 := by omega
        have a1 : z % 32 < 32 := by omega
        by_cases hr : (top : Int) + z % 32 ≤ n
        · go_wp2_with fail
          generalize z % 32 = c at *
          refine (allocL HMr.out c a0 (by omega) (by omega) (by omega)).mono ?_
          rintro e w3 ⟨rfl, m3, b3⟩
          have HM3 := Lib.hid m3
          have HB3 := Lib.hid (HBr.out.trans b3)
          clear m3 b3
          go_wp2
          go_roundw
          case rel => exact ⟨j + 1, top + c.toNat, st + 1, by omega, by go_num, by go_num, by go_num, by omega, by omega, HM3.out, HB3.out⟩
          case measure => simp [intOf]; omega
        · have hr' : n - (top : Int) < z % 32 := by omega
          go_wp2_with fail
          generalize z % 32 = c at *
          refine (allocLfull HMr.out c a0 (by omega)).mono ?_
          rintro e w3 ⟨rfl, m3, b3⟩
          have HM3 := Lib.hid m3
          have HB3 := Lib.hid (HBr.out.trans b3)
          clear m3 b3
          go_wp2
          go_roundw
          case rel => exact ⟨j + 1, top, st, by omega, by go_num, rfl, rfl, by omega, by omega, HM3.out, HB3.out⟩
          case measure => simp [intOf]; omega
      · clear HZ
        go_wp2_with fail
        refine (loadLno HMr.out top (.inr (by omega))).mono ?_
        rintro e w3 ⟨rfl, m3, b3⟩
        have HM3 := Lib.hid m3
        have HB3 := Lib.hid (HBr.out.trans b3)
        clear m3 b3
        go_wp2_with fail
        refine (storeLno HM3.out (-1) 5 (.inl (by omega))).mono ?_
        rintro e w4 ⟨rfl, m4, b4⟩
        have HM4 := Lib.hid m4
        have HB4 := Lib.hid (HB3.out.trans b4)
        clear m4 b4
        go_wp2_with fail
        rcases (show q < 0 ∨ (0 ≤ q ∧ (top : Int) ≤ q) ∨ (0 ≤ q ∧ q < top) from by omega) with hq | ⟨hq, hq'⟩ | ⟨hq, hq'⟩
        · refine (swapLno HM4.out q 0 0 (.inl hq)).mono ?_
          rintro e w5 ⟨rfl, m5, b5⟩
          have HM5 := Lib.hid m5
          have HB5 := Lib.hid (HB4.out.trans b5)
          clear m5 b5
          go_wp2_with fail
          refine (allocLneg HM5.out (-1) (by omega)).mono ?_
          rintro e w6 ⟨rfl, m6, b6⟩
          have HM6 := Lib.hid m6
          have HB6 := Lib.hid (HB5.out.trans b6)
          clear m6 b6
          go_wp2_with fail
          refine (known w6).mono ?_
          rintro e w7 ⟨rfl, b7⟩
          obtain ⟨L, hL, mL⟩ := HM6.out
          have m7 : MemL w7 w.heap.size w.heap.size _ top _ := ⟨L, hL, mL.keep b7⟩
          have T := topL m7
          have S := stepsL m7
          have HB7 := Lib.hid (HB6.out.trans (b7.mono HB6.out.size))
          clear m7 b7 mL hL
          go_wp2_with (first | (go_at_call 17; refine T.mono ?_; rintro e w' ⟨rfl, rfl⟩) | (go_at_call 18; refine S.mono ?_; rintro e w' ⟨rfl, rfl⟩))
          go_ret
          exact ⟨by simp <;> omega, HB7.out⟩
        · refine (swapLno HM4.out q 0 0 (.inr hq')).mono ?_
          rintro e w5 ⟨rfl, m5, b5⟩
          have HM5 := Lib.hid m5
          have HB5 := Lib.hid (HB4.out.trans b5)
          clear m5 b5
          go_wp2_with fail
          refine (allocLneg HM5.out (-1) (by omega)).mono ?_
          rintro e w6 ⟨rfl, m6, b6⟩
          have HM6 := Lib.hid m6
          have HB6 := Lib.hid (HB5.out.trans b6)
          clear m6 b6
          go_wp2_with fail
          refine (known w6).mono ?_
          rintro e w7 ⟨rfl, b7⟩
          obtain ⟨L, hL, mL⟩ := HM6.out
          have m7 : MemL w7 w.heap.size w.heap.size _ top _ := ⟨L, hL, mL.keep b7⟩
          have T := topL m7
          have S := stepsL m7
          have HB7 := Lib.hid (HB6.out.trans (b7.mono HB6.out.size))
          clear m7 b7 mL hL
          go_wp2_with (first | (go_at_call 17; refine T.mono ?_; rintro e w' ⟨rfl, rfl⟩) | (go_at_call 18; refine S.mono ?_; rintro e w' ⟨rfl, rfl⟩))
          go_ret
          exact ⟨by simp <;> omega, HB7.out⟩
        · refine (swapLyes HM4.out q 0 0 hq hq' (by omega) (by omega)).mono ?_
          rintro e w5 ⟨is, rfl, m5, b5⟩
          have HM5 := Lib.hid m5
          have HB5 := Lib.hid (HB4.out.trans b5)
          clear m5 b5
          go_wp2_with fail
          refine (allocLneg HM5.out (-1) (by omega)).mono ?_
          rintro e w6 ⟨rfl, m6, b6⟩
          have HM6 := Lib.hid m6
          have HB6 := Lib.hid (HB5.out.trans b6)
          clear m6 b6
          go_wp2_with fail
          refine (known w6).mono ?_
          rintro e w7 ⟨rfl, b7⟩
          obtain ⟨L, hL, mL⟩ := HM6.out
          have m7 : MemL w7 w.heap.size w.heap.size _ top _ := ⟨L, hL, mL.keep b7⟩
          have T := topL m7
          have S := stepsL m7
          have HB7 := Lib.hid (HB6.out.trans (b7.mono HB6.out.size))
          clear m7 b7 mL hL
          go_wp2_with (first | (go_at_call 17; refine T.mono ?_; rintro e w' ⟨rfl, rfl⟩) | (go_at_call 18; refine S.mono ?_; rintro e w' ⟨rfl, rfl⟩))
          go_ret
          exact ⟨by simp <;> omega, HB7.out⟩

theorem roomWalk {w : World} (n : Int) (ao : Option Addr) (len cap : Nat) (zs : List Int) (q : Int) (_ : -9223372036854775808 ≤ n) (_ : n ≤ 9223372036854775807) (hz : Nums .u8 w ao len zs) (_ : -9223372036854775808 ≤ q) (_ : q ≤ 9223372036854775807) :
    Calls Try.prog 5 #[.int .i64 n, .slice ao len cap, .int .i64 q] w fun e w' => e = .returned (.bool true) ∧ Below w.heap.size w w' := by
  rcases (show n ≤ 0 ∨ 1000 < n ∨ n = 1000 ∨ (0 < n ∧ n < 1000) from by omega) with h | h | h | h
  · exact room0 n ao len cap zs q h hz
  · exact room1000 n ao len cap zs q h hz
  · exact roomK n ao len cap zs q h hz
  · exact roomN n ao len cap zs q h hz

end Go.Proofs.Yteebmcldmiemnaa
