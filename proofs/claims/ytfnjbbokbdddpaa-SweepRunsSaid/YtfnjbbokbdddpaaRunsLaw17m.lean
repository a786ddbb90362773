/-
  The walk of SweepRuns: for all choices and numbers it answers true and leaves all old memory as it was.
-/
import Derived.Test.YtfnjbbokbdddpaaG0817
namespace Go.Proofs.Ytfnjbbokbdddpaa.M2
open Go.RowKit

set_option maxRecDepth 100000 in
set_option maxHeartbeats 16000000 in
theorem runsWalk {w : World} (ac : Option Addr) (nc cc : Nat) (xs : List Int) (age P k : Int) (hx : ArgBytes w ac nc cc xs) (_ : nc ≤ 140737488351232) (a0 : 0 ≤ age) (a1 : age ≤ 255) (_ : -9223372036854775808 ≤ P) (_ : P ≤ 9223372036854775807) (k0 : 0 ≤ k) (k1 : k ≤ 255) :
    Calls Try.prog 4 #[.slice ac nc cc, .int .u8 age, .int .i64 P, .int .u8 k] w fun e w' => e = .returned (.bool true) ∧ Below w.heap.size w w' := by
  have HX := Lib.hid hx
  clear hx
  by_cases hnc : 150 < nc
  · have l0 : (150 : Int) < nc := by omega
    clear hnc
    go_enter Try.func4, Try.ntmps4
    go_wp2_with fail
    refine (known w).mono ?_
    rintro e w1 ⟨rfl, b1⟩
    have HB1 := Lib.hid b1
    clear b1
    go_wp2
    go_ret
    exact ⟨rfl, HB1.out⟩
  · have l0 : (nc : Int) ≤ 150 := by omega
    have HNC := Lib.hid (show nc ≤ 150 by omega)
    clear hnc
    go_enter Try.func4, Try.ntmps4
    go_wp2_with fail
    refine (known w).mono ?_
    rintro e w1 ⟨rfl, b1⟩
    have HB := Lib.hid b1
    clear b1
    go_wp2_with fail
    refine (cellsAll w1 ac nc cc xs ⟨HX.out.1.keep HB.out, HX.out.2⟩ (by have := HNC.out; omega)).mono ?_
    rintro e w2 ⟨a3, c3, y3, rfl, n3, o3, g3⟩
    have R3 := Lib.hid (reads_own o3.1)
    have G3 := Lib.hid (show Gd y3 from g3)
    have N3 := Lib.hid n3
    replace HB := Lib.hid (HB.out.trans (o3.2.mono HB.out.size))
    clear o3 g3 n3
    go_wp2_with fail
    refine (runsAny a3 y3.length c3 y3 R3.out (by have := N3.out; omega) G3.out (age % 9) (k % 20)).mono ?_
    rintro e w4 ⟨rfl, b4⟩
    replace HB := Lib.hid (HB.out.trans (b4.mono HB.out.size))
    clear b4
    go_wp2_with fail
    refine (cellsAll w4 ac nc cc xs ⟨HX.out.1.keep HB.out, HX.out.2⟩ (by have := HNC.out; omega)).mono ?_
    rintro e w5 ⟨a5, c5, y5, rfl, n5, o5, g5⟩
    have R5 := Lib.hid (reads_own o5.1)
    have G5 := Lib.hid (show Gd y5 from g5)
    have N5 := Lib.hid n5
    replace HB := Lib.hid (HB.out.trans (o5.2.mono HB.out.size))
    clear o5 g5 n5
    go_wp2_with fail
    refine (runsAny a5 y5.length c5 y5 R5.out (by have := N5.out; omega) G5.out age P).mono ?_
    rintro e w6 ⟨rfl, b6⟩
    replace HB := Lib.hid (HB.out.trans (b6.mono HB.out.size))
    clear b6
    go_wp2
    go_ret
    exact ⟨rfl, HB.out⟩

end Go.Proofs.Ytfnjbbokbdddpaa.M2
