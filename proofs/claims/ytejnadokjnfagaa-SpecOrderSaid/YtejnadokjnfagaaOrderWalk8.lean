/-
  The walk of SpecOrder: for all objects, operations and bytes it answers true and leaves all old memory as it was.
-/
import Derived.Test.YtejnadokjnfagaaOrdWalk8
namespace Go.Proofs.Ytejnadokjnfagaa
open Go.RowKit Go.Lib

theorem orderSays (w : World) (obj : Int) (ao : Option Addr) (n cap : Nat) (os : List (Int × Int)) (ho : OpsAt w ao n os) (hn : n ≤ 1000) :
    Calls Try.prog 14 #[.int .u8 obj, .slice ao n cap] w fun e w' => e = .returned (.bool true) ∧ Below w.heap.size w w' := by
  by_cases h : obj = 3
  · subst h; exact orderHeap w ao n cap os ho hn
  · exact orderOther w obj ao n cap os ho hn h

set_option maxRecDepth 100000 in
set_option maxHeartbeats 8000000 in
theorem orderWalk {w : World} (obj : Int) (ao : Option Addr) (n cap : Nat) (os : List (Int × Int)) (ac : Option Addr) (lc cc : Nat) (xs : List Int) (_ : 0 ≤ obj) (_ : obj ≤ 255) (ho : ArgOps w ao n cap os) (hn : n ≤ 140737488351232) (hx : ArgBytes w ac lc cc xs) (hlc : lc ≤ 140737488351232) :
    Calls Try.prog 5 #[.int .u8 obj, .slice ao n cap, .slice ac lc cc] w fun e w' => e = .returned (.bool true) ∧ Below w.heap.size w w' := by
  have HO := Lib.hid ho.1
  have HX := Lib.hid hx
  clear ho hx
  have e1 : IntKind.i64.wrap ((n : Int) + lc) = (n : Int) + lc := by rw [IntKind.wrap_i64]; omega
  by_cases h1 : 200 < (n : Int) + lc
  · go_enter Try.func5, Try.ntmps5
    go_wp2_with fail
    refine (known _).mono ?_
    rintro e w1 ⟨rfl, b1⟩
    have HB1 := Lib.hid b1
    clear b1
    go_wp2
    go_ret
    exact ⟨rfl, HB1.out⟩
  · go_enter Try.func5, Try.ntmps5
    go_wp2_with fail
    refine (known _).mono ?_
    rintro e w1 ⟨rfl, b1⟩
    have HB1 := Lib.hid b1
    clear b1
    go_wp2_with fail
    refine (orderSays w1 obj ao n cap os (HO.out.keep HB1.out) (by omega)).mono ?_
    rintro e w2 ⟨rfl, b2⟩
    have HB2 := Lib.hid (HB1.out.trans (b2.mono HB1.out.size))
    clear b2 HB1
    go_wp2_with fail
    refine (opsAny w2 ac lc cc xs 3 (HX.out.1.keep HB2.out) HX.out.2.2.2 (by omega) (by omega) (by omega)).mono ?_
    rintro e w3 ⟨oo, oc, rfl, o3, _, b3⟩
    have hol := opsL_len 3 xs
    have HB3 := Lib.hid (HB2.out.trans (b3.mono HB2.out.size))
    have HO3 := Lib.hid o3
    clear b3 HB2 o3
    generalize opsL 3 xs = os3 at *
    generalize hn3 : os3.length = n3 at *
    clear hn3
    go_wp2_with fail
    refine (orderSays w3 3 oo n3 oc os3 HO3.out (by omega)).mono ?_
    rintro e w4 ⟨rfl, b4⟩
    have HB4 := Lib.hid (HB3.out.trans (b4.mono HB3.out.size))
    clear b4 HB3
    go_wp2_with fail
    refine (orderSays w4 3 ao n cap os (HO.out.keep HB4.out) (by omega)).mono ?_
    rintro e w5 ⟨rfl, b5⟩
    have HB5 := Lib.hid (HB4.out.trans (b5.mono HB4.out.size))
    clear b5 HB4
    go_wp2
    go_ret
    exact ⟨rfl, HB5.out⟩

end Go.Proofs.Ytejnadokjnfagaa
