/-
  EndsPairs: the walk. Conditions: arguments as they came in.
-/
import Derived.Test.YtafocplahmfghaaRefPairs10
namespace Go.Proofs.Ytafocplahmfghaa
open Go.RowKit

set_option maxRecDepth 100000 in
set_option maxHeartbeats 8000000 in
theorem pairsLaw (w : World) (x most : Int) (ao : Option Addr) (n cap : Nat) (os : List (Int × Int)) (ho : OpsAt w ao n os) (hn : n ≤ 1000) :
    Calls Try.prog 11 #[.int .i64 x, .int .i64 most, .slice ao n cap] w fun e w' => e = .returned (.bool true) ∧ Below w.heap.size w w' := by
  have C := pairsAny w x most ao n cap os ho (by omega)
  have HO := Lib.hid ho
  clear ho
  go_enter Try.func11, Try.ntmps11
  go_wp2_with fail
  refine C.mono ?_
  clear C
  rintro e w1 ⟨gw, gc, rfl, r1, q1, _, _, _, b1⟩
  have C := refPairs10 w1 x most ao n cap os (HO.out.keep b1) hn
  have HB1 := Lib.hid b1
  have HP1 := Lib.hid (r1.reads dpL_length)
  have HC1 := Lib.hid (q1.reads dcL_length)
  have HO1 := Lib.hid (HO.out.keep b1)
  clear b1 r1 q1 HO
  go_wp2_with fail
  refine C.mono ?_
  clear C
  rintro e w2 ⟨ap, cp, ac, cc, rfl, r2, q2, b2⟩
  have C := intsEq w2 _ _ n n cp _ (HP1.out.keep b2) r2 hn
  have HB2 := Lib.hid (HB1.out.trans (b2.mono HB1.out.size))
  have HC2 := Lib.hid (And.intro (HC1.out.keep b2) q2)
  have HR2 := Lib.hid r2
  have HO2 := Lib.hid (HO1.out.keep b2)
  clear b2 r2 q2 HB1 HP1 HC1 HO1
  go_wp2_with fail
  refine C.mono ?_
  clear C
  rintro e w3 ⟨rfl, b3⟩
  have C := codesEq w3 _ _ n n cc _ (HC2.out.1.keep b3) (HC2.out.2.keep b3) hn
  have HB3 := Lib.hid (HB2.out.trans (b3.mono HB2.out.size))
  have HR3 := Lib.hid (HR2.out.keep b3)
  have HO3 := Lib.hid (HO2.out.keep b3)
  clear b3 HB2 HC2 HR2 HO2
  go_wp2_with fail
  refine C.mono ?_
  clear C
  rintro e w4 ⟨rfl, b4⟩
  have C := sparedAny w4 x most ao n cap os (HO3.out.keep b4) (by omega)
  have HB4 := Lib.hid (HB3.out.trans (b4.mono HB3.out.size))
  have HR4 := Lib.hid (HR3.out.keep b4)
  clear b4 HB3 HR3 HO3
  go_wp2_with fail
  refine C.mono ?_
  clear C
  rintro e w5 ⟨rfl, b5⟩
  have C := refSpared w5 ap n cp _ (HR4.out.keep b5) (fun i hi => by
    rw [dpL_getD hi]
    have hm := mostOf_in most
    have hh := haveOf_in x (mostOf most) hm.1
    exact (dqP_in (dqAt_ok (olds_ok hh.1 hh.2) (kindsOf os) i) _).1) (by omega)
  have HB5 := Lib.hid (HB4.out.trans (b5.mono HB4.out.size))
  clear b5 HB4 HR4
  generalize metN (dpL (mostOf most) (olds (haveOf x (mostOf most))) (kindsOf os) n) = q at *
  go_wp2_with fail
  refine C.mono ?_
  clear C
  rintro e w6 ⟨rfl, rfl⟩
  go_wp2
  go_ret
  exact ⟨rfl, HB5.out⟩

set_option maxRecDepth 100000 in
set_option maxHeartbeats 16000000 in
theorem pairsWalk {w : World} (x most : Int) (ap : Option Addr) (n cap : Nat) (os : List (Int × Int)) (k : Int) (ac : Option Addr) (lc cc : Nat) (ys : List Int) (_ : -9223372036854775808 ≤ x) (_ : x ≤ 9223372036854775807) (_ : -9223372036854775808 ≤ most) (_ : most ≤ 9223372036854775807)
    (ho : ArgOps w ap n cap os) (hn : n ≤ 140737488351232) (k0 : 0 ≤ k) (k1 : k ≤ 255) (hy : ArgBytes w ac lc cc ys) (hlc : lc ≤ 140737488351232) :
    Calls Try.prog 3 #[.int .i64 x, .int .i64 most, .slice ap n cap, .int .u8 k, .slice ac lc cc] w fun e w' => e = .returned (.bool true) ∧ Below w.heap.size w w' := by
  have HO := Lib.hid ho
  have HY := Lib.hid hy
  clear ho hy
  by_cases h1 : 150 < (n : Int) + lc
  · go_enter Try.func3, Try.ntmps3
    go_wp2_with fail
    refine (known _).mono ?_
    rintro e w1 ⟨rfl, b1⟩
    have HB := Lib.hid b1
    clear b1
    go_wp2
    go_ret
    exact ⟨rfl, HB.out⟩
  · go_enter Try.func3, Try.ntmps3
    go_wp2_with fail
    refine (known _).mono ?_
    rintro e w1 ⟨rfl, b1⟩
    have C := pairsLaw w1 x most ap n cap os (HO.out.1.keep b1) (by omega)
    have HB1 := Lib.hid b1
    clear b1
    go_wp2_with fail
    refine C.mono ?_
    clear C
    rintro e w2 ⟨rfl, b2⟩
    have hb2 := HB1.out.trans (b2.mono HB1.out.size)
    have C := opsAny w2 ac lc cc ys 5 (HY.out.1.keep hb2) HY.out.2.2.2 (by omega) (by omega) (by omega)
    have HB2 := Lib.hid hb2
    clear b2 hb2 HB1
    go_wp2_with fail
    refine C.mono ?_
    clear C
    rintro e w3 ⟨ao3, cap3, rfl, o3, _, b3⟩
    have hb3 := HB2.out.trans (b3.mono HB2.out.size)
    have C := pairsLaw w3 (k % 5) (k / 5 % 7) ao3 _ cap3 _ o3 (by have := opsL_len 5 ys; omega)
    have HB3 := Lib.hid hb3
    clear b3 hb3 HB2 o3
    go_wp2_with fail
    refine C.mono ?_
    clear C
    rintro e w4 ⟨rfl, b4⟩
    have hb4 := HB3.out.trans (b4.mono HB3.out.size)
    have C := opsAny w4 ac lc cc ys 4 (HY.out.1.keep hb4) HY.out.2.2.2 (by omega) (by omega) (by omega)
    have HB4 := Lib.hid hb4
    clear b4 hb4 HB3
    go_wp2_with fail
    refine C.mono ?_
    clear C
    rintro e w5 ⟨ao5, cap5, rfl, o5, _, b5⟩
    have hb5 := HB4.out.trans (b5.mono HB4.out.size)
    have C := pairsLaw w5 (k % 5 - 1) most ao5 _ cap5 _ o5 (by have := opsL_len 4 ys; omega)
    have HB5 := Lib.hid hb5
    clear b5 hb5 HB4 o5
    go_wp2_with fail
    refine C.mono ?_
    clear C
    rintro e w6 ⟨rfl, b6⟩
    have hb6 := HB5.out.trans (b6.mono HB5.out.size)
    have C := pairsLaw w6 x (k % 6) ap n cap os (HO.out.1.keep hb6) (by omega)
    have HB6 := Lib.hid hb6
    clear b6 hb6 HB5
    go_wp2_with fail
    refine C.mono ?_
    clear C
    rintro e w7 ⟨rfl, b7⟩
    have HB7 := Lib.hid (HB6.out.trans (b7.mono HB6.out.size))
    clear b7 HB6
    go_wp2
    go_ret
    exact ⟨rfl, HB7.out⟩

end Go.Proofs.Ytafocplahmfghaa
