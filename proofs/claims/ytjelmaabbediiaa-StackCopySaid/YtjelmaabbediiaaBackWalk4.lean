/-
  The walk of StackBack: for all numbers and bytes it answers true and leaves all old memory as it was.
-/
import Derived.Test.YtjelmaabbediiaaStkRun
namespace Go.Proofs.Ytjelmaabbediiaa
open Go.RowKit

/-- Operations in new memory lie beside a stack that was there. -/
theorem off_new {w : World} {F : Nat → Prop} {ao : Option Addr} (hF : ∀ g, F g → g < w.heap.size) (ho : ∀ a, ao = some a → w.heap.size ≤ a.block) : Off F ao := fun a ha hg => by have := hF _ hg; have := ho a ha; omega

set_option maxRecDepth 100000 in
set_option maxHeartbeats 8000000 in
theorem backWalk {w : World} (most : Int) (ao : Option Addr) (len cap : Nat) (xs : List Int) (v : Int) (m0 : 0 ≤ most) (m1 : most ≤ 255) (hx : ArgBytes w ao len cap xs) (hlen : len ≤ 140737488351232) (_ : -2147483648 ≤ v) (_ : v ≤ 2147483647) :
    Calls Try.prog 7 #[.int .u8 most, .slice ao len cap, .int .i32 v] w fun e w' => e = .returned (.bool true) ∧ Below w.heap.size w w' := by
  obtain ⟨n, hn⟩ : ∃ n : Nat, (n : Int) = most % 12 := ⟨(most % 12).toNat, by omega⟩
  have hn12 : n < 12 := by omega
  have HN := Lib.hid hn
  have HX := Lib.hid hx.1
  have HY := Lib.hid hx.2.2.2
  clear hn hx
  go_enter Try.func7, Try.ntmps7
  go_wp2_with fail
  rw [← HN.out]
  clear HN m0 m1
  refine (newAny n w).mono ?_
  rintro e w1 ⟨rfl, s1, b1⟩
  rw [mostOf_self n (by omega) (by omega)] at s1
  have HA1 := Lib.hid (At.new s1 b1)
  clear s1 b1
  by_cases hl : 60 < len
  · go_wp2_with (go_at_call 9; refine (known _).mono ?_; rintro e w2 ⟨rfl, b2⟩; have HB2 := Lib.hid (HA1.out.fresh b2).2.1; clear b2)
    go_ret
    exact ⟨rfl, HB2.out⟩
  · have hl2 : len ≤ 60 := by omega
    clear hl hlen
    have C := opsAny w1 ao len cap xs 2 (HX.out.keep HA1.out.2.1) HY.out (by omega) (by omega) (by omega)
    go_wp2_with fail
    refine C.mono ?_
    clear C
    rintro e w2 ⟨oo, oc, rfl, o2, of2, b2⟩
    have HA2 := Lib.hid (HA1.out.fresh b2)
    have C := runAny HA2.out.1 oo _ oc _ o2 (off_new HA1.out.lt of2) (fun o ho => (opsL_ok 2 xs HY.out (by omega) (by omega) o ho).1) (by have := opsL_len 2 xs; omega)
    clear o2 of2 b2 HA1
    generalize runL n [] (opsL 2 xs) = zs at *
    generalize (opsL 2 xs).length = ol at *
    go_wp2_with fail
    refine C.mono ?_
    clear C
    rintro e w3 ⟨rfl, d3⟩
    obtain ⟨F3, a3, _, _⟩ := HA2.out.next d3
    have HA3 := Lib.hid a3
    clear d3 a3 HA2
    obtain ⟨m, hm⟩ : ∃ m, zs.length = m := ⟨_, rfl⟩
    have hr : (m : Int) ≤ n := by have := HA3.out.1.room; omega
    have C := itemsBeside HA3.out.1 m hm
    go_wp2_with fail
    refine C.mono ?_
    clear C
    rintro e w4 ⟨rfl, s4, b4⟩
    have HA4 := Lib.hid (HA3.out.fresh b4)
    have HS4 := Lib.hid s4
    have HM := Lib.hid hm
    clear s4 b4 HA3 hm
    by_cases hf : m < n
    · have C := pushOk HA4.out.1 v (by rw [HM.out]; omega)
      go_wp2_with fail
      refine C.mono ?_
      clear C
      rintro e w5 ⟨rfl, d5⟩
      obtain ⟨F5, a5, wr5, l5⟩ := HA4.out.next d5
      have HA5 := Lib.hid a5
      have HS5 := Lib.hid (HS4.out.off wr5 l5)
      clear d5 a5 wr5 l5 HA4 HS4
      have C := lenAny HA5.out.1
      have D := popOk v HA5.out.1
      rw [show ((zs ++ [v]).length : Int) = (m : Int) + 1 by rw [List.length_append, HM.out]; simp] at C
      go_wp2_with fail
      refine C.mono ?_
      clear C
      rintro e w' ⟨rfl, rfl⟩
      go_wp2_with fail
      refine D.mono ?_
      clear D
      rintro e w6 ⟨rfl, d6⟩
      obtain ⟨F6, a6, wr6, l6⟩ := HA5.out.next d6
      have HA6 := Lib.hid a6
      have HS6 := Lib.hid (HS5.out.off wr6 l6)
      clear d6 a6 wr6 l6 HA5 HS5
      go_wp2_with fail
      refine (known _).mono ?_
      rintro e w7 ⟨rfl, b7⟩
      have HA7 := Lib.hid (HA6.out.fresh b7)
      have HS7 := Lib.hid (HS6.out.keep b7)
      clear b7 HA6 HS6
      have C := itemsBeside HA7.out.1 m HM.out
      go_wp2_with fail
      refine C.mono ?_
      clear C
      rintro e w8 ⟨rfl, s8, b8⟩
      have C := sameEq w8 _ _ m m m zs s8.1 (HS7.out.keep b8).1 (by omega)
      have HA8 := Lib.hid (HA7.out.fresh b8)
      clear s8 b8 HA7 HS7
      go_wp2_with fail
      refine C.mono ?_
      clear C
      rintro e w9 ⟨rfl, b9⟩
      have HA9 := Lib.hid (HA8.out.fresh b9)
      clear b9 HA8
      go_wp2
      go_ret
      exact ⟨rfl, HA9.out.2.1⟩
    · obtain rfl : m = n := by omega
      have C := pushFull HA4.out.1 v (by rw [HM.out]; omega)
      go_wp2_with fail
      refine C.mono ?_
      clear C
      rintro e w' ⟨rfl, rfl⟩
      go_wp2_with fail
      refine (known _).mono ?_
      rintro e w7 ⟨rfl, b7⟩
      have HA7 := Lib.hid (HA4.out.fresh b7)
      have HS7 := Lib.hid (HS4.out.keep b7)
      clear b7 HA4 HS4
      have C := mostAny HA7.out.1
      have D := itemsBeside HA7.out.1 m HM.out
      go_wp2_with fail
      refine C.mono ?_
      clear C
      rintro e w' ⟨rfl, rfl⟩
      go_wp2_with fail
      refine D.mono ?_
      clear D
      rintro e w8 ⟨rfl, s8, b8⟩
      have C := sameEq w8 _ _ m m m zs s8.1 (HS7.out.keep b8).1 (by omega)
      have HA8 := Lib.hid (HA7.out.fresh b8)
      clear s8 b8 HA7 HS7
      go_wp2_with fail
      refine C.mono ?_
      clear C
      rintro e w9 ⟨rfl, b9⟩
      have HA9 := Lib.hid (HA8.out.fresh b9)
      clear b9 HA8
      go_wp2
      go_ret
      exact ⟨rfl, HA9.out.2.1⟩

end Go.Proofs.Ytjelmaabbediiaa
