/-
  The walk of RecordPlaces: for all numbers it answers true and leaves all old memory as it was.
-/
import Derived.Test.YteckfbghldlkgaaKept13m
namespace Go.Proofs.Yteckfbghldlkgaa.M2
open Go.RowKit

theorem getD_set_rep (n i j : Nat) (v : Int) : ((List.replicate n (0 : Int)).set i v).getD j 0 = if i = j ∧ i < n then v else 0 := by
  simp only [List.getD, List.getElem?_set, List.length_replicate, List.getElem?_replicate]
  by_cases h : i = j
  · subst h
    by_cases h2 : i < n <;> simp [h2]
  · by_cases h2 : j < n <;> simp [h, h2]

/-- So many zeros, as many as L + 1 threads have when j records are there. -/
def Zs (w : World) (B : Nat) (L j : Nat) : Prop := Mem1 w B B (3 + 5 * ((L : Int) + 1)) (List.replicate (3 + 5 * j) 0) (1 + j)

section
variable {w : World} {B L j : Nat}
theorem Zs.keep {w' : World} (h : Zs w B L j) (b : Below w.heap.size w w') : Zs w' B L j := Mem1.keep h b

theorem allocZ (h : Zs w B L j) (hj : j < L + 1) (hL : L < 64) :
    Calls Try.prog 16 #[.pointer (some ⟨B, 0, none⟩), .int .i64 5] w fun e w' => e = .returned (.tuple #[.int .i64 (3 + 5 * (j : Int)), .int .u16 0]) ∧ Zs w' B L (j + 1) ∧ Below B w w' := by
  have C := alloc1 h 5 (by omega) (by simp <;> omega) (by omega) (by omega)
  rw [List.length_replicate, show (5 : Int).toNat = 5 from rfl, List.replicate_append_replicate, show ((3 + 5 * j : Nat) : Int) = 3 + 5 * (j : Int) by omega, show 3 + 5 * j + 5 = 3 + 5 * (j + 1) by omega, show 1 + (j : Int) + 1 = 1 + ((j + 1 : Nat) : Int) by omega] at C
  exact C

theorem allocZfull (h : Zs w B L (L + 1)) :
    Calls Try.prog 16 #[.pointer (some ⟨B, 0, none⟩), .int .i64 1] w fun e w' => e = .returned (.tuple #[.int .i64 0, .int .u16 11]) ∧ Zs w' B L (L + 1) ∧ Below B w w' :=
  allocFull1 h 1 (by omega) (by simp <;> omega)

theorem mnZ (j : Nat) : mn (List.replicate (3 + 5 * j) (0 : Int)).length = j := by simp [mn]

theorem manyZ (h : Zs w B L (j + 1)) : Calls Try.prog 17 #[.pointer (some ⟨B, 0, none⟩)] w fun e w' => e = .returned (.int .i64 ((j : Int) + 1)) ∧ w = w' := by
  have C := many1 h
  rw [mnZ, show ((j + 1 : Nat) : Int) = (j : Int) + 1 by omega] at C
  exact C

theorem nthZ (h : Zs w B L j) (k : Nat) (hk : k < j) : Calls Try.prog 18 #[.pointer (some ⟨B, 0, none⟩), .int .i64 (3 + 5 * (k : Int))] w fun e w' => e = .returned (.tuple #[.int .i64 k, .bool true]) ∧ w = w' :=
  nthIn h k (by rw [mnZ]; exact hk)

theorem nthZno (h : Zs w B L j) (a : Int) (ha : ∀ k : Nat, k < j → a ≠ 3 + 5 * (k : Int)) (a1 : a ≤ 9223372036854775807) : Calls Try.prog 18 #[.pointer (some ⟨B, 0, none⟩), .int .i64 a] w fun e w' => e = .returned (.tuple #[.int .i64 0, .bool false]) ∧ w = w' :=
  nthOut h a (by rw [mnZ]; exact ha) a1

/-- The last record's third cell is written. -/
def Zv (w : World) (B : Nat) (L : Nat) (v : Int) : Prop := Mem1 w B B (3 + 5 * ((L : Int) + 1)) ((List.replicate (3 + 5 * (L + 1)) 0).set (3 + 5 * L + 2) v) (1 + ((L + 1 : Nat) : Int) + 1)

theorem storeZ (h : Zs w B L (L + 1)) (hL : L < 64) (v : Int) :
    Calls Try.prog 19 #[.pointer (some ⟨B, 0, none⟩), .int .i64 (3 + 5 * (L : Int) + 2), .int .i64 v] w fun e w' => e = .returned (.int .u16 0) ∧ Zv w' B L v ∧ Below B w w' := by
  have C := store1 h (3 + 5 * (L : Int) + 2) v (by omega) (by simp <;> omega) (by omega) (by omega)
  rw [show (3 + 5 * (L : Int) + 2).toNat = 3 + 5 * L + 2 by omega] at C
  exact C

theorem seeZ {v : Int} (h : Zv w B L v) : Calls Try.prog 20 #[.pointer (some ⟨B, 0, none⟩), .int .i64 (3 + 5 * (L : Int))] w fun e w' =>
    e = .returned (.tuple #[.agg #[.int .i64 0, .int .i64 0, .int .i64 v, .int .i64 0, .int .i64 0], .bool true]) ∧ Below w.heap.size w w' := by
  have C := seeIn h L (by simp [mn] <;> omega)
  rw [getD_set_rep, getD_set_rep, getD_set_rep, getD_set_rep, getD_set_rep, if_neg (by omega), if_neg (by omega), if_pos (by omega), if_neg (by omega), if_neg (by omega)] at C
  exact C
end

/-- A number is a record's, or is below all, or behind all, or between. -/
theorem way (a : Int) (L : Nat) : (∃ q : Nat, q < L + 1 ∧ 3 ≤ a ∧ a < 3 + 5 * ((L : Int) + 1) ∧ (a - 3) % 5 = 0 ∧ (a - 3).tmod 5 = 0 ∧ Hid (a = 3 + 5 * (q : Int))) ∨ (a < 3 ∧ Hid (∀ k : Nat, k < L + 1 → a ≠ 3 + 5 * (k : Int)))
    ∨ (3 ≤ a ∧ 3 + 5 * ((L : Int) + 1) ≤ a ∧ Hid (∀ k : Nat, k < L + 1 → a ≠ 3 + 5 * (k : Int))) ∨ (3 ≤ a ∧ a < 3 + 5 * ((L : Int) + 1) ∧ ¬ (a - 3) % 5 = 0 ∧ ¬ (a - 3).tmod 5 = 0 ∧ Hid (∀ k : Nat, k < L + 1 → a ≠ 3 + 5 * (k : Int))) := by
  by_cases h1 : a < 3
  · exact .inr (.inl ⟨h1, Lib.hid (by intro k _; omega)⟩)
  · by_cases h2 : 3 + 5 * ((L : Int) + 1) ≤ a
    · exact .inr (.inr (.inl ⟨by omega, h2, Lib.hid (by intro k _; omega)⟩))
    · have e : (a - 3).tmod 5 = (a - 3) % 5 := Int.tmod_eq_emod_of_nonneg (by omega)
      by_cases h3 : (a - 3) % 5 = 0
      · exact .inl ⟨((a - 3) / 5).toNat, by omega, by omega, by omega, h3, by rw [e]; exact h3, Lib.hid (by omega)⟩
      · exact .inr (.inr (.inr ⟨by omega, by omega, h3, by rw [e]; exact h3, Lib.hid (by intro k _; omega)⟩))

/-- What holds at each round's head. -/
def PlacesRel (w : World) (L : Nat) (i : Value) (wr : World) : Prop :=
  ∃ j : Nat, j ≤ L + 1 ∧ i = .int .i64 j ∧ Zs wr w.heap.size L j ∧ Below w.heap.size w wr

set_option maxRecDepth 100000 in
set_option maxHeartbeats 16000000 in
theorem placesWalk (n a v : Int) (_ : 0 ≤ n) (_ : n ≤ 255) (_ : -9223372036854775808 ≤ a) (a1 : a ≤ 9223372036854775807) (_ : -9223372036854775808 ≤ v) (_ : v ≤ 9223372036854775807) (w : World) :
    Calls Try.prog 4 #[.int .u8 n, .int .i64 a, .int .i64 v] w fun e w' => e = .returned (.bool true) ∧ Below w.heap.size w w' := by
  have hk := (show 1 ≤ 1 + n % 64 ∧ 1 + n % 64 ≤ 64 from by omega)
  go_enter Try.func4, Try.ntmps4
  go_wp2_with fail
  generalize 1 + n % 64 = K at *
  obtain ⟨hk0, hk1⟩ := hk
  obtain ⟨L, rfl⟩ : ∃ L : Nat, K = (L : Int) + 1 := ⟨(K - 1).toNat, by omega⟩
  have hL : L < 64 := by omega
  refine (openIn ((L : Int) + 1) hk0 hk1 w).mono ?_
  rintro e w1 ⟨rfl, m1, b1⟩
  have HM1 := Lib.hid (show Zs w1 w.heap.size L 0 from m1)
  have HB1 := Lib.hid b1
  clear m1 b1
  go_wp2
  go_loopw [9] (fun i wr => PlacesRel w L i wr) (fun i _ => 100 - (intOf i).toNat)
  case atStart => exact ⟨0, by omega, rfl, HM1.out, HB1.out⟩
  case round =>
    obtain ⟨j, hj, rfl, hM, hBr⟩ := hrel
    have HMr := Lib.hid hM
    have HBr := Lib.hid hBr
    clear hM hBr HM1 HB1
    by_cases hlt : j < L + 1
    · have i0 : (j : Int) < (L : Int) + 1 := by omega
      have C := allocZ HMr.out hlt hL
      go_wp2_with fail
      refine C.mono ?_
      clear C
      rintro e w2 ⟨rfl, m2, b2⟩
      have C := manyZ m2
      have D := nthZ m2 j (by omega)
      have HM2 := Lib.hid m2
      have HB2 := Lib.hid (HBr.out.trans b2)
      clear m2 b2 HMr
      go_wp2_with fail
      refine (baseIn (k := (j : Int)) (by omega) (by omega) w2).mono ?_
      rintro e w' ⟨rfl, rfl⟩
      go_wp2_with fail
      refine C.mono ?_
      clear C
      rintro e w' ⟨rfl, rfl⟩
      go_wp2_with fail
      refine D.mono ?_
      clear D
      rintro e w' ⟨rfl, rfl⟩
      go_wp2
      go_roundw
      case rel => exact ⟨j + 1, by omega, by go_num, HM2.out, HB2.out⟩
      case measure => simp [intOf]; omega
    · obtain rfl : j = L + 1 := by omega
      have C := allocZfull HMr.out
      have HW := Lib.hid (way a L)
      rcases HW.out with ⟨q, qL, g1, g2, g3, g4, hq⟩ | ⟨g1, hq⟩ | ⟨g1, g2, hq⟩ | ⟨g1, g2, g3, g4, hq⟩
      · clear HW
        skip
        go_wp2_with fail
        refine C.mono ?_
        clear C
        rintro e w2 ⟨rfl, m2, b2⟩
        have HM2 := Lib.hid m2
        have HB2 := Lib.hid (HBr.out.trans b2)
        have C := (show Calls Try.prog 18 #[.pointer (some ⟨w.heap.size, 0, none⟩), .int .i64 a] w2 fun e w' => e = .returned (.tuple #[.int .i64 (q : Int), .bool true]) ∧ w2 = w' by rw [hq.out]; exact nthZ m2 q qL)
        clear m2 b2 HMr
        go_wp2_with fail
        refine C.mono ?_
        clear C
        rintro e w' ⟨rfl, rfl⟩
        go_wp2_with fail
        refine (baseIn (k := (L : Int)) (by omega) (by omega) w2).mono ?_
        rintro e w' ⟨rfl, rfl⟩
        go_wp2_with fail
        refine (storeZ HM2.out hL v).mono ?_
        rintro e w3 ⟨rfl, m3, b3⟩
        have HM3 := Lib.hid m3
        have HB3 := Lib.hid (HB2.out.trans b3)
        clear m3 b3 HM2
        go_wp2_with fail
        refine (baseIn (k := (L : Int)) (by omega) (by omega) w3).mono ?_
        rintro e w' ⟨rfl, rfl⟩
        go_wp2_with fail
        refine (seeZ HM3.out).mono ?_
        rintro e w4 ⟨rfl, b4⟩
        go_upto_region 19 with (fail)
        generalize hW5 : w4.alloc (.cells #[.int .i64 0, .int .i64 0, .int .i64 v, .int .i64 0, .int .i64 0] 45) = W5
        have f5 : Below w3.heap.size w3 W5 := by subst hW5; exact b4.alloc b4.size _
        have HX := Lib.hid (show B5 W5 w4.heap.size 45 0 0 v 0 0 by subst hW5; exact B5.new _ _ _ _ _ _ _)
        have HB5 := Lib.hid (HB3.out.trans (f5.mono HB3.out.size))
        clear f5 hW5 b4 HM3
        go_wp2_with fail
        refine (known W5).mono ?_
        rintro e w6 ⟨rfl, b6⟩
        have HX := Lib.hid (HX.out.keep b6)
        have HB6 := Lib.hid (HB5.out.trans (b6.mono HB5.out.size))
        clear b6
        have hr := eqRec 0 0 v 0 0
        have x0 := HX.out.c0
        have x1 := HX.out.c1
        have x2 := HX.out.c2
        have x3 := HX.out.c3
        have x4 := HX.out.c4
        go_wp2_with fail
        refine (baseAny (-1) w6).mono ?_
        rintro e w' ⟨rfl, rfl⟩
        rw [bs_low (by omega)]
        go_wp2_with fail
        refine (baseAny 1001 w6).mono ?_
        rintro e w' ⟨rfl, rfl⟩
        rw [bs_high (by omega)]
        go_wp2
        go_ret
        exact ⟨by simp, HB6.out⟩
      · clear HW
        skip
        go_wp2_with fail
        refine C.mono ?_
        clear C
        rintro e w2 ⟨rfl, m2, b2⟩
        have HM2 := Lib.hid m2
        have HB2 := Lib.hid (HBr.out.trans b2)
        have C := nthZno m2 a hq.out a1
        clear m2 b2 HMr
        go_wp2_with fail
        refine C.mono ?_
        clear C
        rintro e w' ⟨rfl, rfl⟩
        go_wp2_with fail
        refine (baseIn (k := (L : Int)) (by omega) (by omega) w2).mono ?_
        rintro e w' ⟨rfl, rfl⟩
        go_wp2_with fail
        refine (storeZ HM2.out hL v).mono ?_
        rintro e w3 ⟨rfl, m3, b3⟩
        have HM3 := Lib.hid m3
        have HB3 := Lib.hid (HB2.out.trans b3)
        clear m3 b3 HM2
        go_wp2_with fail
        refine (baseIn (k := (L : Int)) (by omega) (by omega) w3).mono ?_
        rintro e w' ⟨rfl, rfl⟩
        go_wp2_with fail
        refine (seeZ HM3.out).mono ?_
        rintro e w4 ⟨rfl, b4⟩
        go_upto_region 19 with (fail)
        generalize hW5 : w4.alloc (.cells #[.int .i64 0, .int .i64 0, .int .i64 v, .int .i64 0, .int .i64 0] 45) = W5
        have f5 : Below w3.heap.size w3 W5 := by subst hW5; exact b4.alloc b4.size _
        have HX := Lib.hid (show B5 W5 w4.heap.size 45 0 0 v 0 0 by subst hW5; exact B5.new _ _ _ _ _ _ _)
        have HB5 := Lib.hid (HB3.out.trans (f5.mono HB3.out.size))
        clear f5 hW5 b4 HM3
        go_wp2_with fail
        refine (known W5).mono ?_
        rintro e w6 ⟨rfl, b6⟩
        have HX := Lib.hid (HX.out.keep b6)
        have HB6 := Lib.hid (HB5.out.trans (b6.mono HB5.out.size))
        clear b6
        have hr := eqRec 0 0 v 0 0
        have x0 := HX.out.c0
        have x1 := HX.out.c1
        have x2 := HX.out.c2
        have x3 := HX.out.c3
        have x4 := HX.out.c4
        go_wp2_with fail
        refine (baseAny (-1) w6).mono ?_
        rintro e w' ⟨rfl, rfl⟩
        rw [bs_low (by omega)]
        go_wp2_with fail
        refine (baseAny 1001 w6).mono ?_
        rintro e w' ⟨rfl, rfl⟩
        rw [bs_high (by omega)]
        go_wp2
        go_ret
        exact ⟨by simp, HB6.out⟩
      · clear HW
        skip
        go_wp2_with fail
        refine C.mono ?_
        clear C
        rintro e w2 ⟨rfl, m2, b2⟩
        have HM2 := Lib.hid m2
        have HB2 := Lib.hid (HBr.out.trans b2)
        have C := nthZno m2 a hq.out a1
        clear m2 b2 HMr
        go_wp2_with fail
        refine C.mono ?_
        clear C
        rintro e w' ⟨rfl, rfl⟩
        go_wp2_with fail
        refine (baseIn (k := (L : Int)) (by omega) (by omega) w2).mono ?_
        rintro e w' ⟨rfl, rfl⟩
        go_wp2_with fail
        refine (storeZ HM2.out hL v).mono ?_
        rintro e w3 ⟨rfl, m3, b3⟩
        have HM3 := Lib.hid m3
        have HB3 := Lib.hid (HB2.out.trans b3)
        clear m3 b3 HM2
        go_wp2_with fail
        refine (baseIn (k := (L : Int)) (by omega) (by omega) w3).mono ?_
        rintro e w' ⟨rfl, rfl⟩
        go_wp2_with fail
        refine (seeZ HM3.out).mono ?_
        rintro e w4 ⟨rfl, b4⟩
        go_upto_region 19 with (fail)
        generalize hW5 : w4.alloc (.cells #[.int .i64 0, .int .i64 0, .int .i64 v, .int .i64 0, .int .i64 0] 45) = W5
        have f5 : Below w3.heap.size w3 W5 := by subst hW5; exact b4.alloc b4.size _
        have HX := Lib.hid (show B5 W5 w4.heap.size 45 0 0 v 0 0 by subst hW5; exact B5.new _ _ _ _ _ _ _)
        have HB5 := Lib.hid (HB3.out.trans (f5.mono HB3.out.size))
        clear f5 hW5 b4 HM3
        go_wp2_with fail
        refine (known W5).mono ?_
        rintro e w6 ⟨rfl, b6⟩
        have HX := Lib.hid (HX.out.keep b6)
        have HB6 := Lib.hid (HB5.out.trans (b6.mono HB5.out.size))
        clear b6
        have hr := eqRec 0 0 v 0 0
        have x0 := HX.out.c0
        have x1 := HX.out.c1
        have x2 := HX.out.c2
        have x3 := HX.out.c3
        have x4 := HX.out.c4
        go_wp2_with fail
        refine (baseAny (-1) w6).mono ?_
        rintro e w' ⟨rfl, rfl⟩
        rw [bs_low (by omega)]
        go_wp2_with fail
        refine (baseAny 1001 w6).mono ?_
        rintro e w' ⟨rfl, rfl⟩
        rw [bs_high (by omega)]
        go_wp2
        go_ret
        exact ⟨by simp, HB6.out⟩
      · clear HW
        skip
        go_wp2_with fail
        refine C.mono ?_
        clear C
        rintro e w2 ⟨rfl, m2, b2⟩
        have HM2 := Lib.hid m2
        have HB2 := Lib.hid (HBr.out.trans b2)
        have C := nthZno m2 a hq.out a1
        clear m2 b2 HMr
        go_wp2_with fail
        refine C.mono ?_
        clear C
        rintro e w' ⟨rfl, rfl⟩
        go_wp2_with fail
        refine (baseIn (k := (L : Int)) (by omega) (by omega) w2).mono ?_
        rintro e w' ⟨rfl, rfl⟩
        go_wp2_with fail
        refine (storeZ HM2.out hL v).mono ?_
        rintro e w3 ⟨rfl, m3, b3⟩
        have HM3 := Lib.hid m3
        have HB3 := Lib.hid (HB2.out.trans b3)
        clear m3 b3 HM2
        go_wp2_with fail
        refine (baseIn (k := (L : Int)) (by omega) (by omega) w3).mono ?_
        rintro e w' ⟨rfl, rfl⟩
        go_wp2_with fail
        refine (seeZ HM3.out).mono ?_
        rintro e w4 ⟨rfl, b4⟩
        go_upto_region 19 with (fail)
        generalize hW5 : w4.alloc (.cells #[.int .i64 0, .int .i64 0, .int .i64 v, .int .i64 0, .int .i64 0] 45) = W5
        have f5 : Below w3.heap.size w3 W5 := by subst hW5; exact b4.alloc b4.size _
        have HX := Lib.hid (show B5 W5 w4.heap.size 45 0 0 v 0 0 by subst hW5; exact B5.new _ _ _ _ _ _ _)
        have HB5 := Lib.hid (HB3.out.trans (f5.mono HB3.out.size))
        clear f5 hW5 b4 HM3
        go_wp2_with fail
        refine (known W5).mono ?_
        rintro e w6 ⟨rfl, b6⟩
        have HX := Lib.hid (HX.out.keep b6)
        have HB6 := Lib.hid (HB5.out.trans (b6.mono HB5.out.size))
        clear b6
        have hr := eqRec 0 0 v 0 0
        have x0 := HX.out.c0
        have x1 := HX.out.c1
        have x2 := HX.out.c2
        have x3 := HX.out.c3
        have x4 := HX.out.c4
        go_wp2_with fail
        refine (baseAny (-1) w6).mono ?_
        rintro e w' ⟨rfl, rfl⟩
        rw [bs_low (by omega)]
        go_wp2_with fail
        refine (baseAny 1001 w6).mono ?_
        rintro e w' ⟨rfl, rfl⟩
        rw [bs_high (by omega)]
        go_wp2
        go_ret
        exact ⟨by simp; exact g3, HB6.out⟩

end Go.Proofs.Yteckfbghldlkgaa.M2
