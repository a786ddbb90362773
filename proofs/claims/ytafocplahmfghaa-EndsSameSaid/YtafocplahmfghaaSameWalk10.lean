/-
  EndsSame: the walk. Conditions: arguments as they came in.
-/
import Derived.Test.YtafocplahmfghaaFill10
namespace Go.Proofs.Ytafocplahmfghaa
open Go.RowKit

set_option maxRecDepth 100000 in
set_option maxHeartbeats 16000000 in
theorem sameWalk {w : World} (x k : Int) (aa : Option Addr) (la ca : Nat) (xs : List Int) (ap : Option Addr) (n cap : Nat) (os : List (Int × Int)) (ac : Option Addr) (lc cc : Nat) (ys : List Int) (_ : -9223372036854775808 ≤ x) (_ : x ≤ 9223372036854775807) (k0 : 0 ≤ k) (k1 : k ≤ 255)
    (hx : ArgBytes w aa la ca xs) (hla : la ≤ 140737488351232) (ho : ArgOps w ap n cap os) (hn : n ≤ 140737488351232) (hy : ArgBytes w ac lc cc ys) (hlc : lc ≤ 140737488351232) :
    Calls Try.prog 4 #[.int .i64 x, .int .u8 k, .slice aa la ca, .slice ap n cap, .slice ac lc cc] w fun e w' => e = .returned (.bool true) ∧ Below w.heap.size w w' := by
  have HX := Lib.hid hx
  have HO := Lib.hid ho
  have HY := Lib.hid hy
  clear hx ho hy
  by_cases h1 : 150 < (la : Int) + n + lc
  · go_enter Try.func4, Try.ntmps4
    go_wp2_with fail
    refine (known _).mono ?_
    rintro e w1 ⟨rfl, b1⟩
    have HB := Lib.hid b1
    clear b1
    go_wp2
    go_ret
    exact ⟨rfl, HB.out⟩
  · go_enter Try.func4, Try.ntmps4
    go_wp2_with fail
    refine (known _).mono ?_
    rintro e w1 ⟨rfl, b1⟩
    have C := sameAny w1 x aa la ca xs ap n cap os (HX.out.1.keep b1) HX.out.2.2.2 (by omega) (HO.out.1.keep b1) (by omega)
    have HB1 := Lib.hid b1
    clear b1
    go_wp2_with fail
    refine C.mono ?_
    clear C
    rintro e w2 ⟨rfl, b2⟩
    have hb2 := HB1.out.trans (b2.mono HB1.out.size)
    have C := opsAny w2 ac lc cc ys 5 (HY.out.1.keep hb2) HY.out.2.2.2 (by omega) (by omega) (by omega)
    have HB2 := Lib.hid hb2
    clear b2 hb2 HB1
    go_wp2_with fail
    refine C.mono ?_
    clear C
    rintro e w3 ⟨ao3, cap3, rfl, o3, _, b3⟩
    have hb3 := HB2.out.trans (b3.mono HB2.out.size)
    have C := sameAny w3 (k % 7) aa la ca xs ao3 _ cap3 _ (HX.out.1.keep hb3) HX.out.2.2.2 (by omega) o3 (by have := opsL_len 5 ys; omega)
    have HB3 := Lib.hid hb3
    clear b3 hb3 HB2 o3
    go_wp2_with fail
    refine C.mono ?_
    clear C
    rintro e w4 ⟨rfl, b4⟩
    have hb4 := HB3.out.trans (b4.mono HB3.out.size)
    have C := sameAny w4 (k % 20) aa la ca xs ap n cap os (HX.out.1.keep hb4) HX.out.2.2.2 (by omega) (HO.out.1.keep hb4) (by omega)
    have HB4 := Lib.hid hb4
    clear b4 hb4 HB3
    go_wp2_with fail
    refine C.mono ?_
    clear C
    rintro e w5 ⟨rfl, b5⟩
    have HB5 := Lib.hid (HB4.out.trans (b5.mono HB4.out.size))
    clear b5 HB4
    go_wp2
    go_ret
    exact ⟨rfl, HB5.out⟩

end Go.Proofs.Ytafocplahmfghaa
