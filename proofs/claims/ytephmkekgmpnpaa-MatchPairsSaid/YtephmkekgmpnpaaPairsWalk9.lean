/-
  MatchPairs: the walk. Conditions: arguments as they came in.
-/
import Derived.Test.YtephmkekgmpnpaaRefPairs9
namespace Go.Proofs.Ytephmkekgmpnpaa
open Go.RowKit

set_option maxHeartbeats 3200000 in
theorem refSpared (w : World) (ao : Option Addr) (n cap : Nat) (zs : List Int) (hr : Reads .i64 w ao n zs) (hz : ∀ i, i < n → -1 ≤ zs.getD i 0) (hn : n ≤ 1000000) :
    Calls Try.prog 23 #[.slice ao n cap] w fun e w' => e = .returned (.int .i64 (metN zs)) ∧ w = w' := by
  have HR := Lib.hid hr
  have HZ := Lib.hid hz
  have HL := Lib.hid hr.1
  clear hr hz
  go_enter Try.func23, Try.ntmps23
  go_wp2
  go_loop [3, 4] (fun m i => ∃ k : Nat, k ≤ n ∧ i = .int .i64 k ∧ m = .int .i64 (metN (zs.take k))) (fun _ i => n - (intOf i).toNat)
  case atStart => exact ⟨0, Nat.zero_le _, rfl, rfl⟩
  case round =>
    obtain ⟨k, hk, rfl, rfl⟩ := hrel
    by_cases hlt : k < n
    · obtain ⟨b, off, rfl, bl, hc⟩ := HR.out.2 (by omega)
      have c := hc k hlt
      have hz := HZ.out k hlt
      have hs := metN_take zs k (by rw [HL.out]; exact hlt)
      have hi := metN_in (zs.take k)
      have hi2 : metN (zs.take k) ≤ 1000000 := by have := List.length_take_le k zs; omega
      have i1 : (k : Int) < (n : Int) := by omega
      have hi0 := hi.1
      clear hi hc bl
      generalize zs.getD k 0 = z at *
      generalize metN (zs.take k) = q at *
      by_cases hz1 : z = -1
      · subst hz1
        rw [if_pos rfl] at hs
        have HS := Lib.hid hs
        clear hs
        go_wp2
        go_round
        case rel => exact ⟨k + 1, by omega, by go_num, by rw [HS.out]; go_num⟩
        case measure => simp [intOf]; omega
      · rw [if_neg hz1] at hs
        have HS := Lib.hid hs
        have hz2 : 0 ≤ z := by omega
        clear hs hz1 hz
        go_wp2
        go_round
        case rel => exact ⟨k + 1, by omega, by go_num, by rw [HS.out]⟩
        case measure => simp [intOf]; omega
    · obtain rfl : n = k := by omega
      have HE := Lib.hid (show zs.take n = zs from List.take_of_length_le (by rw [HL.out]; exact Nat.le_refl _))
      clear hlt
      go_wp2
      go_ret
      exact ⟨by rw [HE.out]; rfl, rfl⟩

set_option maxRecDepth 100000 in
set_option maxHeartbeats 8000000 in
theorem pairsLaw (w : World) (x most : Int) (ao : Option Addr) (n cap : Nat) (os : List (Int × Int)) (ho : OpsAt w ao n os) (hn : n ≤ 1000) :
    Calls Try.prog 11 #[.int .i64 x, .int .i64 most, .slice ao n cap] w fun e w' => e = .returned (.bool true) ∧ Below w.heap.size w w' := by
  have C := pairsAny w x most ao n cap os ho (by omega)
  have HO := Lib.hid ho
  clear ho
  go_enter Try.func11, Try.ntmps11
  go_wp2_with fail
  refine C.mono ?_
  clear C
  rintro e w1 ⟨gw, gc, rfl, r1, q1, _, _, _, b1⟩
  have C := refPairs w1 x most ao n cap os (HO.out.keep b1) hn
  have HB1 := Lib.hid b1
  have HP1 := Lib.hid (r1.reads pairsL_length)
  have HC1 := Lib.hid (q1.reads codesL_length)
  have HO1 := Lib.hid (HO.out.keep b1)
  clear b1 r1 q1 HO
  go_wp2_with fail
  refine C.mono ?_
  clear C
  rintro e w2 ⟨ap, cp, ac, cc, rfl, r2, q2, b2⟩
  have C := intsEq w2 _ _ n n cp _ (HP1.out.keep b2) r2 hn
  have HB2 := Lib.hid (HB1.out.trans (b2.mono HB1.out.size))
  have HC2 := Lib.hid (And.intro (HC1.out.keep b2) q2)
  have HR2 := Lib.hid r2
  have HO2 := Lib.hid (HO1.out.keep b2)
  clear b2 r2 q2 HB1 HP1 HC1 HO1
  go_wp2_with fail
  refine C.mono ?_
  clear C
  rintro e w3 ⟨rfl, b3⟩
  have C := codesEq w3 _ _ n n cc _ (HC2.out.1.keep b3) (HC2.out.2.keep b3) hn
  have HB3 := Lib.hid (HB2.out.trans (b3.mono HB2.out.size))
  have HR3 := Lib.hid (HR2.out.keep b3)
  have HO3 := Lib.hid (HO2.out.keep b3)
  clear b3 HB2 HC2 HR2 HO2
  go_wp2_with fail
  refine C.mono ?_
  clear C
  rintro e w4 ⟨rfl, b4⟩
  have C := sparedAny w4 x most ao n cap os (HO3.out.keep b4) (by omega)
  have HB4 := Lib.hid (HB3.out.trans (b4.mono HB3.out.size))
  have HR4 := Lib.hid (HR3.out.keep b4)
  clear b4 HB3 HR3 HO3
  go_wp2_with fail
  refine C.mono ?_
  clear C
  rintro e w5 ⟨rfl, b5⟩
  have C := refSpared w5 ap n cp _ (HR4.out.keep b5) (fun i hi => by
    rw [pairsL_getD hi]
    have hm := mostOf_in most
    have hh := haveOf_in x (mostOf most) hm.1
    exact (lineP_in (lineAt_ok hh.1 hh.2 (kindsOf os) i) _).1) (by omega)
  have HB5 := Lib.hid (HB4.out.trans (b5.mono HB4.out.size))
  clear b5 HB4 HR4
  generalize metN (pairsL (mostOf most) (haveOf x (mostOf most)) (kindsOf os) n) = q at *
  go_wp2_with fail
  refine C.mono ?_
  clear C
  rintro e w6 ⟨rfl, rfl⟩
  go_wp2
  go_ret
  exact ⟨rfl, HB5.out⟩

set_option maxRecDepth 100000 in
set_option maxHeartbeats 16000000 in
theorem pairsWalk {w : World} (x most : Int) (ap : Option Addr) (n cap : Nat) (os : List (Int × Int)) (k : Int) (ac : Option Addr) (lc cc : Nat) (ys : List Int) (_ : -9223372036854775808 ≤ x) (_ : x ≤ 9223372036854775807) (_ : -9223372036854775808 ≤ most) (_ : most ≤ 9223372036854775807)
    (ho : ArgOps w ap n cap os) (hn : n ≤ 140737488351232) (k0 : 0 ≤ k) (k1 : k ≤ 255) (hy : ArgBytes w ac lc cc ys) (hlc : lc ≤ 140737488351232) :
    Calls Try.prog 3 #[.int .i64 x, .int .i64 most, .slice ap n cap, .int .u8 k, .slice ac lc cc] w fun e w' => e = .returned (.bool true) ∧ Below w.heap.size w w' := by
  have HO := Lib.hid ho
  have HY := Lib.hid hy
  clear ho hy
  by_cases h1 : 150 < (n : Int) + lc
  · go_enter Try.func3, Try.ntmps3
    go_wp2_with fail
    refine (known _).mono ?_
    rintro e w1 ⟨rfl, b1⟩
    have HB := Lib.hid b1
    clear b1
    go_wp2
    go_ret
    exact ⟨rfl, HB.out⟩
  · go_enter Try.func3, Try.ntmps3
    go_wp2_with fail
    refine (known _).mono ?_
    rintro e w1 ⟨rfl, b1⟩
    have C := pairsLaw w1 x most ap n cap os (HO.out.1.keep b1) (by omega)
    have HB1 := Lib.hid b1
    clear b1
    go_wp2_with fail
    refine C.mono ?_
    clear C
    rintro e w2 ⟨rfl, b2⟩
    have hb2 := HB1.out.trans (b2.mono HB1.out.size)
    have C := opsAny w2 ac lc cc ys 3 (HY.out.1.keep hb2) HY.out.2.2.2 (by omega) (by omega) (by omega)
    have HB2 := Lib.hid hb2
    clear b2 hb2 HB1
    go_wp2_with fail
    refine C.mono ?_
    clear C
    rintro e w3 ⟨ao3, cap3, rfl, o3, _, b3⟩
    have hb3 := HB2.out.trans (b3.mono HB2.out.size)
    have C := pairsLaw w3 (k % 5) (k / 5 % 7) ao3 _ cap3 _ o3 (by have := opsL_len 3 ys; omega)
    have HB3 := Lib.hid hb3
    clear b3 hb3 HB2 o3
    go_wp2_with fail
    refine C.mono ?_
    clear C
    rintro e w4 ⟨rfl, b4⟩
    have hb4 := HB3.out.trans (b4.mono HB3.out.size)
    have C := opsAny w4 ac lc cc ys 2 (HY.out.1.keep hb4) HY.out.2.2.2 (by omega) (by omega) (by omega)
    have HB4 := Lib.hid hb4
    clear b4 hb4 HB3
    go_wp2_with fail
    refine C.mono ?_
    clear C
    rintro e w5 ⟨ao5, cap5, rfl, o5, _, b5⟩
    have hb5 := HB4.out.trans (b5.mono HB4.out.size)
    have C := pairsLaw w5 (k % 5 - 1) most ao5 _ cap5 _ o5 (by have := opsL_len 2 ys; omega)
    have HB5 := Lib.hid hb5
    clear b5 hb5 HB4 o5
    go_wp2_with fail
    refine C.mono ?_
    clear C
    rintro e w6 ⟨rfl, b6⟩
    have hb6 := HB5.out.trans (b6.mono HB5.out.size)
    have C := pairsLaw w6 x (k % 6) ap n cap os (HO.out.1.keep hb6) (by omega)
    have HB6 := Lib.hid hb6
    clear b6 hb6 HB5
    go_wp2_with fail
    refine C.mono ?_
    clear C
    rintro e w7 ⟨rfl, b7⟩
    have HB7 := Lib.hid (HB6.out.trans (b7.mono HB6.out.size))
    clear b7 HB6
    go_wp2
    go_ret
    exact ⟨rfl, HB7.out⟩

end Go.Proofs.Ytephmkekgmpnpaa
