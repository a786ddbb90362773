/-
  MatchFront: the walk. Conditions: arguments as they came in.
-/
import Derived.Test.YtephmkekgmpnpaaKnow9
namespace Go.Proofs.Ytephmkekgmpnpaa
open Go.RowKit

theorem lineAt_congr {most there : Int} {ks ks' : Nat → Int} : ∀ {k : Nat}, (∀ i, i < k → ks i = ks' i) → lineAt most there ks k = lineAt most there ks' k
  | 0, _ => rfl
  | k + 1, h => by
    have ih := lineAt_congr (most := most) (there := there) (k := k) (fun i hi => h i (by omega))
    simp only [lineAt]
    rw [ih, h k (by omega)]
theorem pairsL_congr {most there : Int} {ks ks' : Nat → Int} {n : Nat} (h : ∀ i, i < n → ks i = ks' i) : pairsL most there ks n = pairsL most there ks' n := by
  unfold pairsL
  refine List.map_congr_left fun k hk => ?_
  have hk : k < n := by simpa using hk
  rw [lineAt_congr (fun i hi => h i (by omega)), h k hk]
theorem codesL_congr {most there : Int} {ks ks' : Nat → Int} {n : Nat} (h : ∀ i, i < n → ks i = ks' i) : codesL most there ks n = codesL most there ks' n := by
  unfold codesL
  refine List.map_congr_left fun k hk => ?_
  have hk : k < n := by simpa using hk
  rw [lineAt_congr (fun i hi => h i (by omega)), h k hk]
theorem kindsOf_take (os : List (Int × Int)) (k : Nat) : ∀ i, i < k → kindsOf (os.take k) i = kindsOf os i := by
  intro i hi
  simp [kindsOf, List.getD, hi]
theorem pairsL_take {most there : Int} {ks : Nat → Int} {n k : Nat} (h : k ≤ n) : (pairsL most there ks n).take k = pairsL most there ks k := by
  unfold pairsL
  rw [← List.map_take, List.take_range, Nat.min_eq_left h]
theorem metN_mono (xs : List Int) (k : Nat) : metN (xs.take k) ≤ metN xs := by
  have h : metN xs = metN (xs.take k) + metN (xs.drop k) := by
    have := List.take_append_drop k xs
    have e : metN (xs.take k ++ xs.drop k) = metN (xs.take k) + metN (xs.drop k) := by
      unfold metN
      rw [List.filter_append]
      simp
    rw [this] at e
    exact e
  have := (metN_in (xs.drop k)).1
  omega
theorem OpsAt.take {w : World} {ao : Option Addr} {n : Nat} {os : List (Int × Int)} (h : OpsAt w ao n os) {k : Nat} (hk : k ≤ n) : OpsAt w ao k (os.take k) := by
  refine ⟨by simp [h.1]; omega, fun hp => ?_⟩
  obtain ⟨b, off, e, hb, hc⟩ := h.2 (by omega)
  refine ⟨b, off, e, hb, fun i hi => ?_⟩
  have := hc i (by omega)
  simpa [List.getD, hi] using this

theorem Reads.front {k : IntKind} {w : World} {ao : Option Addr} {n m : Nat} {zs : List Int} (h : Reads k w ao n zs) (hm : m ≤ n) : Reads k w ao m (zs.take m) := by
  refine ⟨by rw [List.length_take, h.1]; omega, fun hp => ?_⟩
  obtain ⟨b, off, e, hb, hc⟩ := h.2 (by omega)
  refine ⟨b, off, e, hb, fun i hi => ?_⟩
  rw [hc i (by omega)]
  simp [List.getD, hi]

set_option maxRecDepth 100000 in
set_option maxHeartbeats 8000000 in
theorem frontWalk {w : World} (x most : Int) (ap : Option Addr) (n cap : Nat) (os : List (Int × Int)) (a : Int) (_ : -9223372036854775808 ≤ x) (_ : x ≤ 9223372036854775807) (_ : -9223372036854775808 ≤ most) (_ : most ≤ 9223372036854775807)
    (ho : ArgOps w ap n cap os) (hn : n ≤ 140737488351232) (a0 : 0 ≤ a) (a1 : a ≤ 255) :
    Calls Try.prog 9 #[.int .i64 x, .int .i64 most, .slice ap n cap, .int .u8 a] w fun e w' => e = .returned (.bool true) ∧ Below w.heap.size w w' := by
  have HO := Lib.hid ho.1
  have hcap := ho.2.1
  clear ho
  by_cases h1 : 80 < (n : Int)
  · go_enter Try.func9, Try.ntmps9
    go_wp2_with fail
    refine (known _).mono ?_
    rintro e w1 ⟨rfl, b1⟩
    have HB := Lib.hid b1
    clear b1
    go_wp2
    go_ret
    exact ⟨rfl, HB.out⟩
  · obtain ⟨k, hk⟩ : ∃ k : Nat, a % ((n : Int) + 1) = k := ⟨(a % ((n : Int) + 1)).toNat, by have := Int.emod_nonneg a (show (n : Int) + 1 ≠ 0 by omega); omega⟩
    have hkn : k ≤ n := by have := Int.emod_lt_of_pos a (show 0 < (n : Int) + 1 by omega); omega
    have C1 := pairsAny w x most ap n cap os HO.out (by omega)
    have HK := Lib.hid hk
    have n1 : ¬ (n : Int) + 1 = 0 := by omega
    clear hk
    go_enter Try.func9, Try.ntmps9
    go_upto_region 4 with (fail)
    rw [HK.out]
    clear n1 HK a0 a1
    go_wp2_with fail
    refine C1.mono ?_
    clear C1
    rintro e w1 ⟨gw, gc, rfl, r1, r2, _, _, _, b1⟩
    have kc : (k : Int) ≤ (cap : Int) := by omega
    have k0 : (0 : Int) ≤ (k : Int) := by omega
    have ho1 := HO.out.keep b1
    have C := pairsAny w1 x most ap k cap (os.take k) (ho1.take hkn) (by omega)
    have HO1 := Lib.hid ho1
    have HB1 := Lib.hid b1
    have HP1 := Lib.hid r1
    have HC1 := Lib.hid r2
    clear r1 r2 b1 HO ho1
    go_wp2_with fail
    refine C.mono ?_
    clear C
    rintro e w2 ⟨gw2, gc2, rfl, r1, r2, _, _, _, b2⟩
    rw [pairsL_congr (kindsOf_take os k)] at r1
    rw [codesL_congr (kindsOf_take os k)] at r2
    have HO2 := Lib.hid (HO1.out.keep b2)
    have HB2 := Lib.hid (HB1.out.trans (b2.mono HB1.out.size))
    have HP1' := Lib.hid (HP1.out.below b2)
    have HC1' := Lib.hid (HC1.out.below b2)
    have HP2 := Lib.hid r1
    have HC2 := Lib.hid r2
    clear r1 r2 b2 HO1 HB1 HP1 HC1
    go_wp2
    go_loopw [14] (fun i wr => ∃ j : Nat, j ≤ k ∧ i = .int .i64 j ∧ Hid (Below w2.heap.size w2 wr)) (fun i _ => k - (intOf i).toNat)
    case atStart => exact ⟨0, Nat.zero_le _, rfl, Lib.hid (Below.refl _ _)⟩
    case round =>
      obtain ⟨j, hj, rfl, HBr⟩ := hrel
      by_cases hlt : j < k
      · have c1 := (HC1'.out.below HBr.out).cell (i := j) (by rw [codesL_length]; omega)
        have c2 := (HC2.out.below HBr.out).cell (i := j) (by rw [codesL_length]; omega)
        rw [codesL_getD (by omega)] at c1
        rw [codesL_getD (by omega)] at c2
        generalize lineC (mostOf most) (lineAt (mostOf most) (haveOf x (mostOf most)) (kindsOf os) j) (kindsOf os j) = z at *
        have i1 : (j : Int) < (n : Int) := by omega
        have i2 : (j : Int) < (k : Int) := by omega
        go_wp2
        go_quiet (fail)
        go_wp2
        go_roundw
        case rel => exact ⟨j + 1, by omega, by go_num, Lib.hid (below_drewN HBr.out _)⟩
        case measure => simp [intOf]; omega
      · obtain rfl : j = k := by omega
        clear hlt
        go_wp2_with fail
        refine (known _).mono ?_
        rintro e w3 ⟨rfl, b3⟩
        have hb := HBr.out.trans (b3.mono HBr.out.size)
        have HB3 := Lib.hid (HB2.out.trans (hb.mono HB2.out.size))
        have HO3 := Lib.hid (HO2.out.keep hb)
        have rp := ((HP1'.out.below hb).reads (pairsL_length))
        have C := intsEq w3 (some ⟨gw, 0, none⟩) (some ⟨gw2, 0, none⟩) j n j _ (by
          have := Reads.front rp hkn
          rwa [pairsL_take hkn] at this) ((HP2.out.below hb).reads pairsL_length) (by omega)
        have jn : (j : Int) ≤ (n : Int) := by omega
        clear b3 hb rp HB2 HO2 HP1' HP2 HC1' HC2 HBr
        go_wp2_with fail
        refine C.mono ?_
        clear C
        rintro e w4 ⟨rfl, b4⟩
        have HB4 := Lib.hid (HB3.out.trans (b4.mono HB3.out.size))
        have ho4 := HO3.out.keep b4
        have C := sparedAny w4 x most ap j cap (os.take j) (ho4.take hkn) (by omega)
        rw [pairsL_congr (kindsOf_take os j)] at C
        have HO4 := Lib.hid ho4
        clear b4 ho4 HB3 HO3
        go_wp2_with fail
        refine C.mono ?_
        clear C
        rintro e w5 ⟨rfl, b5⟩
        have HB5 := Lib.hid (HB4.out.trans (b5.mono HB4.out.size))
        have C := sparedAny w5 x most ap n cap os (HO4.out.keep b5) (by omega)
        clear b5 HB4 HO4
        go_wp2_with fail
        refine C.mono ?_
        clear C
        rintro e w6 ⟨rfl, b6⟩
        have HB6 := Lib.hid (HB5.out.trans (b6.mono HB5.out.size))
        have hm := metN_mono (pairsL (mostOf most) (haveOf x (mostOf most)) (kindsOf os) n) j
        rw [pairsL_take hkn] at hm
        clear b6 HB5
        generalize metN (pairsL (mostOf most) (haveOf x (mostOf most)) (kindsOf os) n) = q1 at *
        generalize metN (pairsL (mostOf most) (haveOf x (mostOf most)) (kindsOf os) j) = q2 at *
        go_wp2
        go_ret
        exact ⟨rfl, HB6.out⟩

end Go.Proofs.Ytephmkekgmpnpaa
