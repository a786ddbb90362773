/-
  The walk of SpecAsks: for all objects, sizes, items, operations and bytes it answers true and leaves all old memory as it was.
-/
import Derived.Test.YtejnadokjnfagaaAsks8
namespace Go.Proofs.Ytejnadokjnfagaa
open Go.RowKit Go.Lib

theorem modIn {x m : Int} (h : 0 ≤ x) (hm : 0 < m) : ∃ q : Int, x.tmod m = q ∧ 0 ≤ q ∧ q < m :=
  ⟨x % m, Int.tmod_eq_emod_of_nonneg h, Int.emod_nonneg x (by omega), Int.emod_lt_of_pos x hm⟩
theorem modNat {x m : Int} (h : 0 ≤ x) (hm : 0 < m) : ∃ q : Nat, x.tmod m = (q : Int) ∧ (q : Int) < m := by
  obtain ⟨q, e, q0, q1⟩ := modIn h hm
  exact ⟨q.toNat, by rw [e]; omega, by omega⟩
theorem wrap8 {x : Int} (h : 0 ≤ x) (h1 : x ≤ 255) : IntKind.u8.wrap x = x := by rw [IntKind.wrap_u8]; omega
theorem wrap64 {x : Int} (h : 0 ≤ x) (h1 : x ≤ 255) : IntKind.i64.wrap x = x := by rw [IntKind.wrap_i64]; omega

set_option maxRecDepth 100000 in
set_option maxHeartbeats 16000000 in
theorem asksWalk {w : World} (obj most : Int) (ao : Option Addr) (nz capz : Nat) (zs : List Int) (ap : Option Addr) (n cap : Nat) (os : List (Int × Int)) (kk : Int) (ac : Option Addr) (lc cc : Nat) (xs : List Int) (o0 : 0 ≤ obj) (_ : obj ≤ 255) (_ : -9223372036854775808 ≤ most) (_ : most ≤ 9223372036854775807)
    (hz : ArgInt32s w ao nz capz zs) (hnz : nz ≤ 140737488351232) (ho : ArgOps w ap n cap os) (hn : n ≤ 140737488351232) (k0 : 0 ≤ kk) (_ : kk ≤ 255) (hx : ArgBytes w ac lc cc xs) (hlc : lc ≤ 140737488351232) :
    Calls Try.prog 3 #[.int .u8 obj, .int .i64 most, .slice ao nz capz, .slice ap n cap, .int .u8 kk, .slice ac lc cc] w fun e w' => e = .returned (.bool true) ∧ Below w.heap.size w w' := by
  have HZ := Lib.hid hz
  have HO := Lib.hid ho
  have HX := Lib.hid hx
  have hzc := hz.2.1
  clear hz ho hx
  have e1 : IntKind.i64.wrap ((nz : Int) + n) = (nz : Int) + n := by rw [IntKind.wrap_i64]; omega
  have e2 : IntKind.i64.wrap ((nz : Int) + n + lc) = (nz : Int) + n + lc := by rw [IntKind.wrap_i64]; omega
  by_cases h1 : 200 < (nz : Int) + n + lc
  · go_enter Try.func3, Try.ntmps3
    go_wp2_with fail
    refine (known _).mono ?_
    rintro e w1 ⟨rfl, b1⟩
    have HB1 := Lib.hid b1
    clear b1
    go_wp2
    go_ret
    exact ⟨rfl, HB1.out⟩
  · have g1 : nz ≤ 200 := by omega
    have g2 : n ≤ 200 := by omega
    have g3 : lc ≤ 200 := by omega
    have HK1 := Lib.hid (opsL_ok 5 xs HX.out.2.2.2 (by omega) (by omega))
    have HK2 := Lib.hid (opsL_ok 2 xs HX.out.2.2.2 (by omega) (by omega))
    have HK3 := Lib.hid (opsL_ok 3 xs HX.out.2.2.2 (by omega) (by omega))
    have HLs := Lib.hid (show (opsL 5 xs).length ≤ 200 ∧ (opsL 2 xs).length ≤ 200 ∧ (opsL 3 xs).length ≤ 200 from ⟨Nat.le_trans (opsL_len 5 xs) (by omega), Nat.le_trans (opsL_len 2 xs) (by omega), Nat.le_trans (opsL_len 3 xs) (by omega)⟩)
    obtain ⟨q3, c1, q30, q31⟩ := modIn (m := 3) k0 (by decide)
    obtain ⟨r7, d1, r70, r71⟩ := modIn (m := 7) k0 (by decide)
    obtain ⟨r5, f1, r51⟩ := modNat (m := 5) k0 (by decide)
    obtain ⟨r9, m1, r90, r91⟩ := modIn (m := 9) k0 (by decide)
    obtain ⟨q4, p1, q40, q41⟩ := modIn (m := 4) o0 (by decide)
    have c2 := wrap8 q30 (Int.le_trans (Int.le_of_lt q31) (by decide))
    have c3 := wrap8 (x := 1 + q3) (by omega) (by omega)
    have d2 := wrap8 r70 (Int.le_trans (Int.le_of_lt r71) (by decide))
    have d3 := wrap64 r70 (Int.le_trans (Int.le_of_lt r71) (by decide))
    have f2 := wrap8 (x := (r5 : Int)) (by omega) (by omega)
    have f3 := wrap64 (x := (r5 : Int)) (by omega) (by omega)
    have m2 := wrap8 r90 (Int.le_trans (Int.le_of_lt r91) (by decide))
    have m3 := wrap64 r90 (Int.le_trans (Int.le_of_lt r91) (by decide))
    have p2 := wrap8 q40 (Int.le_trans (Int.le_of_lt q41) (by decide))
    clear q30 q31 r70 r71 r51 r90 r91 q40 q41
    by_cases hm : r5 < nz
    · have s1 : (r5 : Int) < (nz : Int) := by omega
      have s2 : (r5 : Int) ≤ (nz : Int) := by omega
      have s3 : (r5 : Int) ≤ (capz : Int) := by omega
      have s4 : ¬ (nz : Int) < (r5 : Int) := by omega
      have s5 : (0 : Int) ≤ (r5 : Int) := by omega
      go_enter Try.func3, Try.ntmps3
      go_wp2_with fail
      refine (known _).mono ?_
      rintro e w1 ⟨rfl, b1⟩
      have HB1 := Lib.hid b1.drew
      have HBn := Lib.hid b1
      clear b1
      go_upto_region 3 with (fail)
      have C1 := Lib.hid (asksSays w1.drew obj most ao ap nz capz n cap zs os (HZ.out.1.keep HB1.out) HZ.out.2.1 (HO.out.1.keep HB1.out) HO.out.2.2.2 g1 g2)
      go_region_held3 (fun _ => True) (exact trivial) (first
        | (go_at_call 11; (with_reducible refine C4.out.mono ?_); rintro e w8 ⟨rfl, bl8⟩; have HB8 := Lib.hid (HB7.out.trans (bl8.mono HB7.out.size)); clear bl8 C4)
        | (go_at_call 11; (with_reducible refine C3.out.mono ?_); rintro e w6 ⟨rfl, bl6⟩; have HB6 := Lib.hid (HB5.out.trans (bl6.mono HB5.out.size)); have O3 := Lib.hid (opsAny w6 ac lc cc xs 3 (HX.out.1.keep HB6.out) HX.out.2.2.2 (by omega) (by omega) (by omega)); clear bl6 C3)
        | (go_at_call 11; (with_reducible refine C2.out.mono ?_); rintro e w4 ⟨rfl, bl4⟩; have HB4 := Lib.hid (HB3.out.trans (bl4.mono HB3.out.size)); have O2 := Lib.hid (opsAny w4 ac lc cc xs 2 (HX.out.1.keep HB4.out) HX.out.2.2.2 (by omega) (by omega) (by omega)); clear bl4 C2)
        | (go_at_call 11; (with_reducible refine C1.out.mono ?_); rintro e w2 ⟨rfl, bl2⟩; have HB2 := Lib.hid (HB1.out.trans (bl2.mono HB1.out.size)); have O1 := Lib.hid (opsAny w2 ac lc cc xs 5 (HX.out.1.keep HB2.out) HX.out.2.2.2 (by omega) (by omega) (by omega)); clear bl2 C1)
        | (go_at_call 12; (with_reducible refine O3.out.mono ?_); rintro e w7 ⟨oo3, oc3, rfl, o3, _, bl7⟩; have HB7 := Lib.hid (HB6.out.trans (bl7.mono HB6.out.size)); have C4 := Lib.hid (asksSays w7 q4 most ao oo3 nz capz (opsL 3 xs).length oc3 zs (opsL 3 xs) (HZ.out.1.keep HB7.out) HZ.out.2.1 o3 HK3.out (by omega) HLs.out.2.2); clear bl7 O3 o3)
        | (go_at_call 12; (with_reducible refine O2.out.mono ?_); rintro e w5 ⟨oo2, oc2, rfl, o2, _, bl5⟩; have HB5 := Lib.hid (HB4.out.trans (bl5.mono HB4.out.size)); have C3 := Lib.hid (asksSays w5 (1 + q3) r9 none oo2 0 0 (opsL 2 xs).length oc2 [] (opsL 2 xs) (ints_none _ _) (Nat.le_refl _) o2 HK2.out (by omega) HLs.out.2.1); clear bl5 O2 o2)
        | (go_at_call 12; (with_reducible refine O1.out.mono ?_); rintro e w3 ⟨oo1, oc1, rfl, o1, _, bl3⟩; have HB3 := Lib.hid (HB2.out.trans (bl3.mono HB2.out.size)); have C2 := Lib.hid (asksSays w3 (1 + q3) r7 ao oo1 r5 capz (opsL 5 xs).length oc1 (zs.take r5) (opsL 5 xs) (reads_take (HZ.out.1.keep HB3.out) (by omega)) (by have := HZ.out.2.1; omega) o1 HK1.out (by omega) HLs.out.1); clear bl3 O1 o1))
      all_goals
        go_wp2
        go_ret
        exact ⟨rfl, HB8.out⟩
    · have s1 : ¬ (r5 : Int) < (nz : Int) := by omega
      have s2 : (nz : Int) ≤ (r5 : Int) := by omega
      have s3 : (nz : Int) ≤ (capz : Int) := by omega
      have s5 : (0 : Int) ≤ (nz : Int) := by omega
      go_enter Try.func3, Try.ntmps3
      go_wp2_with fail
      refine (known _).mono ?_
      rintro e w1 ⟨rfl, b1⟩
      have HB1 := Lib.hid b1.drew
      have HBn := Lib.hid b1
      clear b1
      go_upto_region 3 with (fail)
      have C1 := Lib.hid (asksSays w1.drew obj most ao ap nz capz n cap zs os (HZ.out.1.keep HB1.out) HZ.out.2.1 (HO.out.1.keep HB1.out) HO.out.2.2.2 g1 g2)
      go_region_held3 (fun _ => True) (exact trivial) (first
        | (go_at_call 11; (with_reducible refine C4.out.mono ?_); rintro e w8 ⟨rfl, bl8⟩; have HB8 := Lib.hid (HB7.out.trans (bl8.mono HB7.out.size)); clear bl8 C4)
        | (go_at_call 11; (with_reducible refine C3.out.mono ?_); rintro e w6 ⟨rfl, bl6⟩; have HB6 := Lib.hid (HB5.out.trans (bl6.mono HB5.out.size)); have O3 := Lib.hid (opsAny w6 ac lc cc xs 3 (HX.out.1.keep HB6.out) HX.out.2.2.2 (by omega) (by omega) (by omega)); clear bl6 C3)
        | (go_at_call 11; (with_reducible refine C2.out.mono ?_); rintro e w4 ⟨rfl, bl4⟩; have HB4 := Lib.hid (HB3.out.trans (bl4.mono HB3.out.size)); have O2 := Lib.hid (opsAny w4 ac lc cc xs 2 (HX.out.1.keep HB4.out) HX.out.2.2.2 (by omega) (by omega) (by omega)); clear bl4 C2)
        | (go_at_call 11; (with_reducible refine C1.out.mono ?_); rintro e w2 ⟨rfl, bl2⟩; have HB2 := Lib.hid (HB1.out.trans (bl2.mono HB1.out.size)); have O1 := Lib.hid (opsAny w2 ac lc cc xs 5 (HX.out.1.keep HB2.out) HX.out.2.2.2 (by omega) (by omega) (by omega)); clear bl2 C1)
        | (go_at_call 12; (with_reducible refine O3.out.mono ?_); rintro e w7 ⟨oo3, oc3, rfl, o3, _, bl7⟩; have HB7 := Lib.hid (HB6.out.trans (bl7.mono HB6.out.size)); have C4 := Lib.hid (asksSays w7 q4 most ao oo3 nz capz (opsL 3 xs).length oc3 zs (opsL 3 xs) (HZ.out.1.keep HB7.out) HZ.out.2.1 o3 HK3.out (by omega) HLs.out.2.2); clear bl7 O3 o3)
        | (go_at_call 12; (with_reducible refine O2.out.mono ?_); rintro e w5 ⟨oo2, oc2, rfl, o2, _, bl5⟩; have HB5 := Lib.hid (HB4.out.trans (bl5.mono HB4.out.size)); have C3 := Lib.hid (asksSays w5 (1 + q3) r9 none oo2 0 0 (opsL 2 xs).length oc2 [] (opsL 2 xs) (ints_none _ _) (Nat.le_refl _) o2 HK2.out (by omega) HLs.out.2.1); clear bl5 O2 o2)
        | (go_at_call 12; (with_reducible refine O1.out.mono ?_); rintro e w3 ⟨oo1, oc1, rfl, o1, _, bl3⟩; have HB3 := Lib.hid (HB2.out.trans (bl3.mono HB2.out.size)); have C2 := Lib.hid (asksSays w3 (1 + q3) r7 ao oo1 nz capz (opsL 5 xs).length oc1 (zs.take nz) (opsL 5 xs) (reads_take (HZ.out.1.keep HB3.out) (by omega)) (by have := HZ.out.2.1; omega) o1 HK1.out (by omega) HLs.out.1); clear bl3 O1 o1))
      all_goals
        go_wp2
        go_ret
        exact ⟨rfl, HB8.out⟩

end Go.Proofs.Ytejnadokjnfagaa
