/-
  The walk of RecordOpen: for all numbers it answers true and leaves all old memory as it was.
-/
import Derived.Test.YteckfbghldlkgaaKnown13m
namespace Go.Proofs.Yteckfbghldlkgaa.M2
open Go.RowKit

theorem MemL.as {w : World} {B p n n' : Nat} {size st st' : Int} (h : MemL w B p size n st) (e : n = n') (e' : st = st') : MemL w B p size n' st' := e ▸ e' ▸ h

/-- What holds at each round's head: how many are there, the steps, the counter. -/
def OpenRel (w : World) (K : Nat) (many j : Value) (wr : World) : Prop :=
  ∃ i r : Nat, i ≤ 70 ∧ j = .int .i64 i ∧ many = .int .i64 r ∧ r = min i K ∧ MemL wr w.heap.size w.heap.size (3 + 5 * K) (3 + 5 * r) (1 + r) ∧ Below w.heap.size w wr

set_option maxRecDepth 100000 in
set_option maxHeartbeats 16000000 in
theorem openWalk (n k : Int) (_ : -9223372036854775808 ≤ n) (_ : n ≤ 9223372036854775807) (_ : 0 ≤ k) (_ : k ≤ 255) (w : World) :
    Calls Try.prog 7 #[.int .i64 n, .int .u8 k] w fun e w' => e = .returned (.bool true) ∧ Below w.heap.size w w' := by
  have hk := (show 1 ≤ 1 + k % 64 ∧ 1 + k % 64 ≤ 64 from by omega)
  rcases (show n < 1 ∨ (1 ≤ n ∧ 64 < n) ∨ (1 ≤ n ∧ n ≤ 64) from by omega) with h | ⟨h, h'⟩ | ⟨h, h'⟩
  · go_enter Try.func7, Try.ntmps7
    go_wp2_with fail
    generalize 1 + k % 64 = K at *
    obtain ⟨hk0, hk1⟩ := hk
    obtain ⟨K, rfl⟩ : ∃ N : Nat, K = (N : Int) := ⟨K.toNat, by omega⟩
    refine (openIn K hk0 hk1 w).mono ?_
    rintro e w1 ⟨rfl, m1, b1⟩
    have HM1 := Lib.hid (show MemL w1 w.heap.size w.heap.size (3 + 5 * K) 3 1 from ⟨_, rfl, m1⟩)
    have HB1 := Lib.hid b1
    clear m1 b1
    go_wp2_with fail
    refine (openOut n (.inl h) w1).mono ?_
    rintro e w2 ⟨rfl, rfl⟩
    have HM2 := HM1
    have HB2 := HB1
    clear HM1 HB1
    go_wp2
    go_loopw [8, 9] (fun many j wr => OpenRel w K many j wr) (fun _ j _ => 70 - (intOf j).toNat)
    case atStart => exact ⟨0, 0, by omega, rfl, rfl, by omega, (HM2.out).as (by omega) (by omega), HB2.out⟩
    case round =>
      obtain ⟨i, r, hi, rfl, rfl, hr, hM, hB⟩ := hrel
      have HMr := Lib.hid hM
      have HBr := Lib.hid hB
      clear hM hB HM2
      by_cases hlt : i < 70
      · have i0 : (i : Int) < 70 := by omega
        by_cases hK : i < K
        · obtain rfl : r = i := by omega
          clear hr
          go_wp2_with fail
          refine (allocL HMr.out 5 (by omega) (by omega) (by omega) (by omega)).mono ?_
          rintro e w3 ⟨rfl, m3, b3⟩
          have HM3 := Lib.hid (m3.as (n' := 3 + 5 * (r + 1)) (st' := 1 + ((r + 1 : Nat) : Int)) (by omega) (by omega))
          have HB3 := Lib.hid (HBr.out.trans b3)
          clear m3 b3 HMr
          go_wp2
          go_roundw
          case rel => exact ⟨r + 1, r + 1, by omega, by go_num, by go_num, by omega, HM3.out, HB3.out⟩
          case measure => simp [intOf]; omega
        · obtain rfl : r = K := by omega
          clear hr
          go_wp2_with fail
          refine (allocLfull HMr.out 5 (by omega) (by omega)).mono ?_
          rintro e w3 ⟨rfl, m3, b3⟩
          have HM3 := Lib.hid m3
          have HB3 := Lib.hid (HBr.out.trans b3)
          clear m3 b3 HMr
          go_wp2
          go_roundw
          case rel => exact ⟨i + 1, r, by omega, by go_num, rfl, by omega, HM3.out, HB3.out⟩
          case measure => simp [intOf]; omega
      · obtain rfl : i = 70 := by omega
        obtain rfl : r = K := by omega
        clear hr
        go_wp2_with fail
        refine (known wr).mono ?_
        rintro e w3 ⟨rfl, b3⟩
        have M := manyL (HMr.out.keep b3)
        have T := topL (HMr.out.keep b3)
        rw [show mn (3 + 5 * r) = r by unfold mn; omega] at M
        rw [show ((3 + 5 * r : Nat) : Int) = 3 + 5 * (r : Int) by omega] at T
        have HB3 := Lib.hid (HBr.out.trans (b3.mono HBr.out.size))
        clear b3 HMr
        go_wp2_with fail
        refine M.mono ?_
        clear M
        rintro e w' ⟨rfl, rfl⟩
        go_wp2_with fail
        refine T.mono ?_
        clear T
        rintro e w' ⟨rfl, rfl⟩
        go_wp2_with fail
        refine (baseIn (k := (r : Int)) (by omega) (by omega) _).mono ?_
        rintro e w' ⟨rfl, rfl⟩
        go_wp2
        go_ret
        exact ⟨by simp, HB3.out⟩
  · go_enter Try.func7, Try.ntmps7
    go_wp2_with fail
    generalize 1 + k % 64 = K at *
    obtain ⟨hk0, hk1⟩ := hk
    obtain ⟨K, rfl⟩ : ∃ N : Nat, K = (N : Int) := ⟨K.toNat, by omega⟩
    refine (openIn K hk0 hk1 w).mono ?_
    rintro e w1 ⟨rfl, m1, b1⟩
    have HM1 := Lib.hid (show MemL w1 w.heap.size w.heap.size (3 + 5 * K) 3 1 from ⟨_, rfl, m1⟩)
    have HB1 := Lib.hid b1
    clear m1 b1
    go_wp2_with fail
    refine (openOut n (.inr h') w1).mono ?_
    rintro e w2 ⟨rfl, rfl⟩
    have HM2 := HM1
    have HB2 := HB1
    clear HM1 HB1
    go_wp2
    go_loopw [8, 9] (fun many j wr => OpenRel w K many j wr) (fun _ j _ => 70 - (intOf j).toNat)
    case atStart => exact ⟨0, 0, by omega, rfl, rfl, by omega, (HM2.out).as (by omega) (by omega), HB2.out⟩
    case round =>
      obtain ⟨i, r, hi, rfl, rfl, hr, hM, hB⟩ := hrel
      have HMr := Lib.hid hM
      have HBr := Lib.hid hB
      clear hM hB HM2
      by_cases hlt : i < 70
      · have i0 : (i : Int) < 70 := by omega
        by_cases hK : i < K
        · obtain rfl : r = i := by omega
          clear hr
          go_wp2_with fail
          refine (allocL HMr.out 5 (by omega) (by omega) (by omega) (by omega)).mono ?_
          rintro e w3 ⟨rfl, m3, b3⟩
          have HM3 := Lib.hid (m3.as (n' := 3 + 5 * (r + 1)) (st' := 1 + ((r + 1 : Nat) : Int)) (by omega) (by omega))
          have HB3 := Lib.hid (HBr.out.trans b3)
          clear m3 b3 HMr
          go_wp2
          go_roundw
          case rel => exact ⟨r + 1, r + 1, by omega, by go_num, by go_num, by omega, HM3.out, HB3.out⟩
          case measure => simp [intOf]; omega
        · obtain rfl : r = K := by omega
          clear hr
          go_wp2_with fail
          refine (allocLfull HMr.out 5 (by omega) (by omega)).mono ?_
          rintro e w3 ⟨rfl, m3, b3⟩
          have HM3 := Lib.hid m3
          have HB3 := Lib.hid (HBr.out.trans b3)
          clear m3 b3 HMr
          go_wp2
          go_roundw
          case rel => exact ⟨i + 1, r, by omega, by go_num, rfl, by omega, HM3.out, HB3.out⟩
          case measure => simp [intOf]; omega
      · obtain rfl : i = 70 := by omega
        obtain rfl : r = K := by omega
        clear hr
        go_wp2_with fail
        refine (known wr).mono ?_
        rintro e w3 ⟨rfl, b3⟩
        have M := manyL (HMr.out.keep b3)
        have T := topL (HMr.out.keep b3)
        rw [show mn (3 + 5 * r) = r by unfold mn; omega] at M
        rw [show ((3 + 5 * r : Nat) : Int) = 3 + 5 * (r : Int) by omega] at T
        have HB3 := Lib.hid (HBr.out.trans (b3.mono HBr.out.size))
        clear b3 HMr
        go_wp2_with fail
        refine M.mono ?_
        clear M
        rintro e w' ⟨rfl, rfl⟩
        go_wp2_with fail
        refine T.mono ?_
        clear T
        rintro e w' ⟨rfl, rfl⟩
        go_wp2_with fail
        refine (baseIn (k := (r : Int)) (by omega) (by omega) _).mono ?_
        rintro e w' ⟨rfl, rfl⟩
        go_wp2
        go_ret
        exact ⟨by simp, HB3.out⟩
  · go_enter Try.func7, Try.ntmps7
    go_wp2_with fail
    generalize 1 + k % 64 = K at *
    obtain ⟨hk0, hk1⟩ := hk
    obtain ⟨K, rfl⟩ : ∃ N : Nat, K = (N : Int) := ⟨K.toNat, by omega⟩
    refine (openIn K hk0 hk1 w).mono ?_
    rintro e w1 ⟨rfl, m1, b1⟩
    have HM1 := Lib.hid (show MemL w1 w.heap.size w.heap.size (3 + 5 * K) 3 1 from ⟨_, rfl, m1⟩)
    have HB1 := Lib.hid b1
    clear m1 b1
    go_wp2_with fail
    refine (openIn n h h' w1).mono ?_
    rintro e w2 ⟨rfl, _, b2⟩
    have HM2 := Lib.hid (HM1.out.keep b2)
    have HB2 := Lib.hid (HB1.out.trans (b2.mono HB1.out.size))
    clear b2 HM1 HB1
    go_wp2
    go_loopw [8, 9] (fun many j wr => OpenRel w K many j wr) (fun _ j _ => 70 - (intOf j).toNat)
    case atStart => exact ⟨0, 0, by omega, rfl, rfl, by omega, (HM2.out).as (by omega) (by omega), HB2.out⟩
    case round =>
      obtain ⟨i, r, hi, rfl, rfl, hr, hM, hB⟩ := hrel
      have HMr := Lib.hid hM
      have HBr := Lib.hid hB
      clear hM hB HM2
      by_cases hlt : i < 70
      · have i0 : (i : Int) < 70 := by omega
        by_cases hK : i < K
        · obtain rfl : r = i := by omega
          clear hr
          go_wp2_with fail
          refine (allocL HMr.out 5 (by omega) (by omega) (by omega) (by omega)).mono ?_
          rintro e w3 ⟨rfl, m3, b3⟩
          have HM3 := Lib.hid (m3.as (n' := 3 + 5 * (r + 1)) (st' := 1 + ((r + 1 : Nat) : Int)) (by omega) (by omega))
          have HB3 := Lib.hid (HBr.out.trans b3)
          clear m3 b3 HMr
          go_wp2
          go_roundw
          case rel => exact ⟨r + 1, r + 1, by omega, by go_num, by go_num, by omega, HM3.out, HB3.out⟩
          case measure => simp [intOf]; omega
        · obtain rfl : r = K := by omega
          clear hr
          go_wp2_with fail
          refine (allocLfull HMr.out 5 (by omega) (by omega)).mono ?_
          rintro e w3 ⟨rfl, m3, b3⟩
          have HM3 := Lib.hid m3
          have HB3 := Lib.hid (HBr.out.trans b3)
          clear m3 b3 HMr
          go_wp2
          go_roundw
          case rel => exact ⟨i + 1, r, by omega, by go_num, rfl, by omega, HM3.out, HB3.out⟩
          case measure => simp [intOf]; omega
      · obtain rfl : i = 70 := by omega
        obtain rfl : r = K := by omega
        clear hr
        go_wp2_with fail
        refine (known wr).mono ?_
        rintro e w3 ⟨rfl, b3⟩
        have M := manyL (HMr.out.keep b3)
        have T := topL (HMr.out.keep b3)
        rw [show mn (3 + 5 * r) = r by unfold mn; omega] at M
        rw [show ((3 + 5 * r : Nat) : Int) = 3 + 5 * (r : Int) by omega] at T
        have HB3 := Lib.hid (HBr.out.trans (b3.mono HBr.out.size))
        clear b3 HMr
        go_wp2_with fail
        refine M.mono ?_
        clear M
        rintro e w' ⟨rfl, rfl⟩
        go_wp2_with fail
        refine T.mono ?_
        clear T
        rintro e w' ⟨rfl, rfl⟩
        go_wp2_with fail
        refine (baseIn (k := (r : Int)) (by omega) (by omega) _).mono ?_
        rintro e w' ⟨rfl, rfl⟩
        go_wp2
        go_ret
        exact ⟨by simp, HB3.out⟩

end Go.Proofs.Yteckfbghldlkgaa.M2
