/-
  EndsFront: the walk. Conditions: arguments as they came in.
-/
import Derived.Test.YtafocplahmfghaaKnow10
namespace Go.Proofs.Ytafocplahmfghaa
open Go.RowKit

set_option maxRecDepth 100000 in
set_option maxHeartbeats 8000000 in
theorem frontWalk {w : World} (x most : Int) (ap : Option Addr) (n cap : Nat) (os : List (Int × Int)) (a : Int) (_ : -9223372036854775808 ≤ x) (_ : x ≤ 9223372036854775807) (_ : -9223372036854775808 ≤ most) (_ : most ≤ 9223372036854775807)
    (ho : ArgOps w ap n cap os) (hn : n ≤ 140737488351232) (a0 : 0 ≤ a) (a1 : a ≤ 255) :
    Calls Try.prog 9 #[.int .i64 x, .int .i64 most, .slice ap n cap, .int .u8 a] w fun e w' => e = .returned (.bool true) ∧ Below w.heap.size w w' := by
  have HO := Lib.hid ho.1
  have hcap := ho.2.1
  clear ho
  by_cases h1 : 80 < (n : Int)
  · go_enter Try.func9, Try.ntmps9
    go_wp2_with fail
    refine (known _).mono ?_
    rintro e w1 ⟨rfl, b1⟩
    have HB := Lib.hid b1
    clear b1
    go_wp2
    go_ret
    exact ⟨rfl, HB.out⟩
  · obtain ⟨k, hk⟩ : ∃ k : Nat, a % ((n : Int) + 1) = k := ⟨(a % ((n : Int) + 1)).toNat, by have := Int.emod_nonneg a (show (n : Int) + 1 ≠ 0 by omega); omega⟩
    have hkn : k ≤ n := by have := Int.emod_lt_of_pos a (show 0 < (n : Int) + 1 by omega); omega
    have C1 := pairsAny w x most ap n cap os HO.out (by omega)
    have HK := Lib.hid hk
    have n1 : ¬ (n : Int) + 1 = 0 := by omega
    clear hk
    go_enter Try.func9, Try.ntmps9
    go_upto_region 4 with (fail)
    rw [HK.out]
    clear n1 HK a0 a1
    go_wp2_with fail
    refine C1.mono ?_
    clear C1
    rintro e w1 ⟨gw, gc, rfl, r1, r2, _, _, _, b1⟩
    have kc : (k : Int) ≤ (cap : Int) := by omega
    have k0 : (0 : Int) ≤ (k : Int) := by omega
    have ho1 := HO.out.keep b1
    have C := pairsAny w1 x most ap k cap (os.take k) (ho1.take hkn) (by omega)
    have HO1 := Lib.hid ho1
    have HB1 := Lib.hid b1
    have HP1 := Lib.hid r1
    have HC1 := Lib.hid r2
    clear r1 r2 b1 HO ho1
    go_wp2_with fail
    refine C.mono ?_
    clear C
    rintro e w2 ⟨gw2, gc2, rfl, r1, r2, _, _, _, b2⟩
    rw [dpL_congr (kindsOf_take os k)] at r1
    rw [dcL_congr (kindsOf_take os k)] at r2
    have HO2 := Lib.hid (HO1.out.keep b2)
    have HB2 := Lib.hid (HB1.out.trans (b2.mono HB1.out.size))
    have HP1' := Lib.hid (HP1.out.below b2)
    have HC1' := Lib.hid (HC1.out.below b2)
    have HP2 := Lib.hid r1
    have HC2 := Lib.hid r2
    clear r1 r2 b2 HO1 HB1 HP1 HC1
    go_wp2
    go_loopw [14] (fun i wr => ∃ j : Nat, j ≤ k ∧ i = .int .i64 j ∧ Hid (Below w2.heap.size w2 wr)) (fun i _ => k - (intOf i).toNat)
    case atStart => exact ⟨0, Nat.zero_le _, rfl, Lib.hid (Below.refl _ _)⟩
    case round =>
      obtain ⟨j, hj, rfl, HBr⟩ := hrel
      by_cases hlt : j < k
      · have c1 := (HC1'.out.below HBr.out).cell (i := j) (by rw [dcL_length]; omega)
        have c2 := (HC2.out.below HBr.out).cell (i := j) (by rw [dcL_length]; omega)
        rw [dcL_getD (by omega)] at c1
        rw [dcL_getD (by omega)] at c2
        generalize dqC (mostOf most) (dqAt (mostOf most) (olds (haveOf x (mostOf most))) (kindsOf os) j) (kindsOf os j) = z at *
        have i1 : (j : Int) < (n : Int) := by omega
        have i2 : (j : Int) < (k : Int) := by omega
        go_wp2
        go_quiet (fail)
        go_wp2
        go_roundw
        case rel => exact ⟨j + 1, by omega, by go_num, Lib.hid (below_drewN HBr.out _)⟩
        case measure => simp [intOf]; omega
      · obtain rfl : j = k := by omega
        clear hlt
        go_wp2_with fail
        refine (known _).mono ?_
        rintro e w3 ⟨rfl, b3⟩
        have hb := HBr.out.trans (b3.mono HBr.out.size)
        have HB3 := Lib.hid (HB2.out.trans (hb.mono HB2.out.size))
        have HO3 := Lib.hid (HO2.out.keep hb)
        have rp := ((HP1'.out.below hb).reads (dpL_length))
        have C := intsEq w3 (some ⟨gw, 0, none⟩) (some ⟨gw2, 0, none⟩) j n j _ (by
          have := Reads.front rp hkn
          rwa [dpL_take hkn] at this) ((HP2.out.below hb).reads dpL_length) (by omega)
        have jn : (j : Int) ≤ (n : Int) := by omega
        clear b3 hb rp HB2 HO2 HP1' HP2 HC1' HC2 HBr
        go_wp2_with fail
        refine C.mono ?_
        clear C
        rintro e w4 ⟨rfl, b4⟩
        have HB4 := Lib.hid (HB3.out.trans (b4.mono HB3.out.size))
        have ho4 := HO3.out.keep b4
        have C := sparedAny w4 x most ap j cap (os.take j) (ho4.take hkn) (by omega)
        rw [dpL_congr (kindsOf_take os j)] at C
        have HO4 := Lib.hid ho4
        clear b4 ho4 HB3 HO3
        go_wp2_with fail
        refine C.mono ?_
        clear C
        rintro e w5 ⟨rfl, b5⟩
        have HB5 := Lib.hid (HB4.out.trans (b5.mono HB4.out.size))
        have C := sparedAny w5 x most ap n cap os (HO4.out.keep b5) (by omega)
        clear b5 HB4 HO4
        go_wp2_with fail
        refine C.mono ?_
        clear C
        rintro e w6 ⟨rfl, b6⟩
        have HB6 := Lib.hid (HB5.out.trans (b6.mono HB5.out.size))
        have hm := metN_mono (dpL (mostOf most) (olds (haveOf x (mostOf most))) (kindsOf os) n) j
        rw [dpL_take hkn] at hm
        clear b6 HB5
        generalize metN (dpL (mostOf most) (olds (haveOf x (mostOf most))) (kindsOf os) n) = q1 at *
        generalize metN (dpL (mostOf most) (olds (haveOf x (mostOf most))) (kindsOf os) j) = q2 at *
        go_wp2
        go_ret
        exact ⟨rfl, HB6.out⟩

end Go.Proofs.Ytafocplahmfghaa
