/-
  The walk of ListAsks: for all numbers and lists it answers true and leaves all old memory as it was.
-/
import Derived.Test.YtllgcnljpehgeaaKnw14m
import Derived.Test.YtllgcnljpehgeaaCells14m
namespace Go.Proofs.Ytllgcnljpehgeaa.M2
open Go.RowKit

/-- Numbers that an int64 can be. -/
def BigL (zs : List Int) : Prop := ∀ z ∈ zs, z ≤ 9223372036854775807

theorem openBig {H : Type} {enc : TypeId × Value → H} {W : World} {a : Option Addr} {len cap : Nat} {d : DataW H} {ps : List MemPlace}
    (h : DataW.Trod enc Try.prog W 0 (fun _ => true) true 22 (.slice a len cap) d ps) : ∃ zs, ArgInt64s W a len cap zs ∧ BigL zs := by
  obtain ⟨zs, h1, h2, h3, h4⟩ := openNums Try.underlying22 Try.underlying2 (by kernel_rfl) h
  exact ⟨zs, ⟨h1, h2, h3⟩, fun z hz => (bounds_i64 (h4 z hz)).2⟩

set_option maxRecDepth 100000 in
set_option maxHeartbeats 16000000 in
theorem asksWalk {w : World} (ao : Option Addr) (len cap : Nat) (zs : List Int) (age k : Int) (ac : Option Addr) (nc cc : Nat) (xs : List Int) (hz : ArgInt64s w ao len cap zs) (hb : BigL zs) (_ : len ≤ 140737488351232) (_ : -9223372036854775808 ≤ age) (_ : age ≤ 9223372036854775807) (j0 : 0 ≤ k) (j1 : k ≤ 255) (hx : ArgBytes w ac nc cc xs) (_ : nc ≤ 140737488351232) :
    Calls Try.prog 3 #[.slice ao len cap, .int .i64 age, .int .u8 k, .slice ac nc cc] w fun e w' => e = .returned (.bool true) ∧ Below w.heap.size w w' := by
  have HZ := Lib.hid hz
  have HX := Lib.hid hx
  have HBG := Lib.hid hb
  clear hz hx hb
  by_cases hl : 200 < len
  · have l0 : (200 : Int) < len := by omega
    go_enter Try.func3, Try.ntmps3
    go_wp2_with fail
    refine (known w).mono ?_
    rintro e w1 ⟨rfl, b1⟩
    have HB := Lib.hid b1
    clear b1
    go_wp2
    go_ret
    exact ⟨rfl, HB.out⟩
  by_cases hc : 200 < nc
  · have l0 : (len : Int) ≤ 200 := by omega
    have l1 : (200 : Int) < nc := by omega
    go_enter Try.func3, Try.ntmps3
    go_wp2_with fail
    refine (known w).mono ?_
    rintro e w1 ⟨rfl, b1⟩
    have HB := Lib.hid b1
    clear b1
    go_wp2
    go_ret
    exact ⟨rfl, HB.out⟩
  have l0 : (len : Int) ≤ 200 := by omega
  have l1 : (nc : Int) ≤ 200 := by omega
  have HL := Lib.hid (show len ≤ 200 by omega)
  have HC := Lib.hid (show nc ≤ 200 by omega)
  clear hl hc
  go_enter Try.func3, Try.ntmps3
  go_wp2_with fail
  refine (known w).mono ?_
  rintro e w1 ⟨rfl, b1⟩
  have HB1 := Lib.hid b1
  have HX1 := Lib.hid (show ArgBytes w1 ac nc cc xs from ⟨HX.out.1.keep b1, HX.out.2⟩)
  have C := asksAll ao len cap zs (HZ.out.1.keep b1) HL.out HBG.out age
  clear b1
  go_wp2_with fail
  refine C.mono ?_
  clear C
  rintro e w2 ⟨rfl, b2⟩
  have HX2 := Lib.hid (show ArgBytes w2 ac nc cc xs from ⟨HX1.out.1.keep b2, HX1.out.2⟩)
  have HB2 := Lib.hid (HB1.out.trans (b2.mono HB1.out.size))
  clear b2 HX1 HB1
  go_wp2_with fail
  refine (cellsAll w2 ac nc cc xs HX2.out HC.out).mono ?_
  rintro e w3 ⟨a3, c3, y3, rfl, n3, o3, g3⟩
  have r3 := reads_own o3.1
  have HX3 := Lib.hid (show ArgBytes w3 ac nc cc xs from ⟨HX2.out.1.keep o3.2, HX2.out.2⟩)
  have HB3 := Lib.hid (HB2.out.trans (o3.2.mono HB2.out.size))
  have C := fun ag => asksAll a3 y3.length c3 y3 r3 (by omega) g3 ag
  have HCC := Lib.hid C
  clear C o3 r3 g3 HX2 HB2 n3
  go_wp2_with fail
  refine (HCC.out _).mono ?_
  clear HCC
  rintro e w4 ⟨rfl, b4⟩
  have HX4 := Lib.hid (show ArgBytes w4 ac nc cc xs from ⟨HX3.out.1.keep b4, HX3.out.2⟩)
  have HB4 := Lib.hid (HB3.out.trans (b4.mono HB3.out.size))
  clear b4 HX3 HB3
  go_wp2_with fail
  refine (cellsAll w4 ac nc cc xs HX4.out HC.out).mono ?_
  rintro e w5 ⟨a5, c5, y5, rfl, n5, o5, g5⟩
  have r5 := reads_own o5.1
  have HB5 := Lib.hid (HB4.out.trans (o5.2.mono HB4.out.size))
  have C := asksAll a5 y5.length c5 y5 r5 (by omega) g5 age
  clear o5 r5 g5 HB4 n5
  go_wp2_with fail
  refine C.mono ?_
  clear C
  rintro e w6 ⟨rfl, b6⟩
  have HB6 := Lib.hid (HB5.out.trans (b6.mono HB5.out.size))
  clear b6 HB5
  go_wp2
  go_ret
  exact ⟨rfl, HB6.out⟩

end Go.Proofs.Ytllgcnljpehgeaa.M2
