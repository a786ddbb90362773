/-
  The walk of OwnerClaims: for every operation and numbers it answers true and leaves all old memory as it was.
-/
import Derived.Test.YthefdglocnalhaaRun15m
import Derived.Test.YthefdglocnalhaaRecA15
import Derived.Deep.Cut
namespace Go.Proofs.Ythefdglocnalhaa.M2
open Go.RowKit

theorem wd_pos {k v : Int} (ho : OpOk (k, v)) : 0 < wd k v := by
  have h : 1 ≤ wd k v := (wd_bd ho.1.1 ho.1.2 ho.2.1 ho.2.2).1
  omega

set_option maxRecDepth 100000 in
set_option maxHeartbeats 16000000 in
theorem claimsWalk (kd vl h o wn : Int) (ho : OpOk (kd, vl)) (_ : -9223372036854775808 ≤ h) (_ : h ≤ 9223372036854775807) (_ : -9223372036854775808 ≤ o) (_ : o ≤ 9223372036854775807) (w0 : 0 ≤ wn) (w1 : wn ≤ 255) (w : World) :
    Calls Try.prog 5 #[.agg #[.int .u8 kd, .int .i32 vl], .int .i64 h, .int .i64 o, .int .u8 wn] w fun e w' => e = .returned (.bool true) ∧ Below w.heap.size w w' := by
  have HT0 := Lib.hid (show thN t0 = .agg #[.int .i64 0, .int .i64 0, .int .i64 0, .int .i64 0, .int .i64 0, .int .i64 0, .int .i64 0, .int .i64 0, .int .i64 0, .int .i64 0, .int .i64 0, .int .i64 0, .slice none 0 0] from rfl)
  have HO := Lib.hid ho
  have HWP := Lib.hid (wd_pos ho)
  clear ho
  go_enter Try.func5, Try.ntmps5
  go_wp2_with fail
  generalize hW : w.alloc (.cells #[.int .u8 kd, .int .i32 vl] 27) = W
  have HOB : W.heap[w.heap.size]? = some (.cells #[.int .u8 kd, .int .i32 vl] 27 (0, 0)) := by subst hW; exact heap_alloc_new w _
  have HBW := Lib.hid (show Below w.heap.size w W by subst hW; exact (Below.refl _ _).alloc (Nat.le_refl _) _)
  clear hW
  refine (openIn 2 (by omega) (by omega) W).mono ?_
  rintro e v1 ⟨rfl, m1, b1⟩
  have HM1 := Lib.hid (show Mem1 v1 W.heap.size W.heap.size 13 [0, 0, 0] 1 from m1)
  have HB1 := Lib.hid b1
  have hob : v1.heap[w.heap.size]? = some (.cells #[.int .u8 kd, .int .i32 vl] 27 (0, 0)) := (b1.block _ (lt_of_block HOB)).trans HOB
  have o0 : v1.cell? ⟨w.heap.size, 0, none⟩ = some (.int .u8 kd) := by simp [World.cell?, hob]
  have o1 : v1.cell? ⟨w.heap.size, 1, none⟩ = some (.int .i32 vl) := by simp [World.cell?, hob]
  clear m1 b1 hob HOB
  have C := beginN v1 t0 kd vl HO.out
  rw [HT0.out] at C
  obtain ⟨WD, hWD⟩ : ∃ WD, wd kd vl = WD := ⟨_, rfl⟩
  rw [hWD] at C HWP
  have HC := Lib.hid C
  clear C hWD
  go_wp2_with fail
  with_reducible refine HC.out.mono ?_
  clear HC
  rintro e v2 ⟨rfl, b2⟩
  obtain ⟨T, hT⟩ : ∃ T, bgT t0 WD = T := ⟨_, rfl⟩
  rw [hT, show thN T = .agg #[.int .i64 T.ti, .int .i64 T.pc, .int .i64 T.rc, .int .i64 T.sq, .int .i64 T.wo, .int .i64 T.lk, .int .i64 T.cu, .int .i64 T.pv, .int .i64 T.nt, .int .i64 T.mx, .int .i64 T.ps, .int .i64 T.rn, .slice none 0 0] from rfl]
  have HTB := Lib.hid hT
  clear hT
  go_upto_region 3 with (fail)
  generalize hW3 : v2.alloc (.cells #[.int .i64 T.ti, .int .i64 T.pc, .int .i64 T.rc, .int .i64 T.sq, .int .i64 T.wo, .int .i64 T.lk, .int .i64 T.cu, .int .i64 T.pv, .int .i64 T.nt, .int .i64 T.mx, .int .i64 T.ps, .int .i64 T.rn, .slice none 0 0] 25) = v3
  have hb3 : Below v1.heap.size v1 v3 := by subst hW3; exact b2.alloc b2.size _
  have HR3 := Lib.hid (show RR W W.heap.size v2.heap.size 13 T [0, 0, 0] 1 v3 from ⟨HM1.out.keep hb3, by subst hW3; exact TX.new v2 T _, HB1.out.trans (hb3.mono HB1.out.size), Nat.le_trans HB1.out.size b2.size⟩)
  clear hW3 hb3 b2 HM1 HB1 o0 o1
  generalize W.heap.size = p at *
  generalize v2.heap.size = gt at *
  have C := HR3.out.storeR 1 h (by decide) (by simp) (by decide) (by decide)
  have HC := Lib.hid C
  clear C
  go_wp2_with fail
  with_reducible refine HC.out.mono ?_
  clear HC HR3
  rintro e v4 ⟨rfl, r4⟩
  have HR4 := Lib.hid (show RR W p gt 13 T [0, h, 0] 2 v4 from r4)
  clear r4
  go_upto_region 7 with (fail)
  obtain ⟨N, hN⟩ : ∃ N : Nat, 2 + wn % 7 = (N : Int) := ⟨(2 + wn % 7).toNat, by omega⟩
  rw [hN]
  have n2 : (2 : Int) ≤ N := by omega
  have n8 : (N : Int) ≤ 8 := by omega
  have HN := Lib.hid (show 2 ≤ N ∧ N ≤ 8 by omega)
  have HR := Lib.hid (show RR W p gt 13 (clS WD h o N 0).1 (clS WD h o N 0).2.1 (clS WD h o N 0).2.2 v4 by rw [show (clS WD h o N 0).1 = T from HTB.out]; exact HR4.out)
  clear HR4 HTB hN w0 w1
  go_wp2_with fail
  go_loopw [13] (fun kv wr => ∃ k : Nat, k ≤ 9 ∧ kv = .int .i64 (k : Int) ∧ RR W p gt 13 (clS WD h o N k).1 (clS WD h o N k).2.1 (clS WD h o N k).2.2 wr) (fun kv _ => 9 - (intOf kv).toNat)
  case atStart => exact ⟨0, by omega, rfl, HR.out⟩
  case round =>
    obtain ⟨k, hk, rfl, hK⟩ := hrel
    clear HR
    by_cases hlt : k < 9
    · have HI := Lib.hid (clI WD h o N HN.out.1 HN.out.2 k hlt)
      have HLT := Lib.hid hlt
      have i1 : (k : Int) < 9 := by omega
      have HNX := Lib.hid (show clS WD h o N (k + 1) = one 13 (pre1 (k == N) o (clS WD h o N k)) from rfl)
      obtain ⟨T, hT⟩ : ∃ T, (clS WD h o N k).1 = T := ⟨_, rfl⟩
      obtain ⟨zs, hzs⟩ : ∃ zs, (clS WD h o N k).2.1 = zs := ⟨_, rfl⟩
      obtain ⟨st, hst⟩ : ∃ st, (clS WD h o N k).2.2 = st := ⟨_, rfl⟩
      rw [show clS WD h o N k = (T, zs, st) by rw [← hT, ← hzs, ← hst]] at HNX
      rw [hT, hzs, hst] at HI hK
      have HK := Lib.hid hK
      clear hT hzs hst hK hlt hk
      by_cases hkw : k = N
      · subst hkw
        have C := HK.out.storeR 1 o (by decide) (by have := HI.out.2.1; omega) (by have := HI.out.2.2.1; omega) (by have := HI.out.2.2.2; omega)
        have HC := Lib.hid C
        have HE := Lib.hid (show clS WD h o k (k + 1) = one 13 (T, zs.set 1 o, st + 1) by rw [HNX.out, pre1, if_pos (by simp)])
        have HQ := Lib.hid (show ad T.rc 0 = T.rc ∧ 0 ≤ st + 1 ∧ st + 1 < 1000000 by have := HI.out; exact ⟨this.1, by omega, by omega⟩)
        clear C HI HNX
        go_wp2_with fail
        with_reducible refine HC.out.mono ?_
        clear HC HK
        rintro e wq ⟨rfl, r5⟩
        have HK := Lib.hid (show RR W p gt 13 T (zs.set 1 o) (st + 1) wq from r5)
        clear r5
        obtain ⟨ys, hys⟩ : ∃ ys, zs.set 1 o = ys := ⟨_, rfl⟩
        obtain ⟨sq, hsq⟩ : ∃ sq, st + 1 = sq := ⟨_, rfl⟩
        rw [hys, hsq] at HK HE
        rw [hsq] at HQ
        clear hys hsq
        have C := HK.out.stepR T HQ.out.1 HQ.out.2.1 HQ.out.2.2
        obtain ⟨S, hS⟩ : ∃ S, stp 13 T ys = S := ⟨_, rfl⟩
        have HNXT := Lib.hid (show (clS WD h o k (k + 1)) = (S.t, S.zs, sq + S.c) by rw [HE.out]; unfold one; rw [hS])
        rw [hS, show thN T = .agg #[.int .i64 T.ti, .int .i64 T.pc, .int .i64 T.rc, .int .i64 T.sq, .int .i64 T.wo, .int .i64 T.lk, .int .i64 T.cu, .int .i64 T.pv, .int .i64 T.nt, .int .i64 T.mx, .int .i64 T.ps, .int .i64 T.rn, .slice none 0 0] from rfl, show thN S.t = .agg #[.int .i64 S.t.ti, .int .i64 S.t.pc, .int .i64 S.t.rc, .int .i64 S.t.sq, .int .i64 S.t.wo, .int .i64 S.t.lk, .int .i64 S.t.cu, .int .i64 S.t.pv, .int .i64 S.t.nt, .int .i64 S.t.mx, .int .i64 S.t.ps, .int .i64 S.t.rn, .slice none 0 0] from rfl] at C
        have HC := Lib.hid C
        have x := HK.out.x
        have c0 := x.c0
        have c1 := x.c1
        have c2 := x.c2
        have c3 := x.c3
        have c4 := x.c4
        have c5 := x.c5
        have c6 := x.c6
        have c7 := x.c7
        have c8 := x.c8
        have c9 := x.c9
        have c10 := x.c10
        have c11 := x.c11
        have c12 := x.c12
        clear C hS x HE HQ
        go_wp2_with fail
        with_reducible refine HC.out.mono ?_
        clear HC c0 c1 c2 c3 c4 c5 c6 c7 c8 c9 c10 c11 c12
        rintro e w5 ⟨rfl, r5⟩
        go_upto_region 13 with (fail)
        generalize hW6 : (w5.alloc (.cells #[.int .i64 S.t.ti, .int .i64 S.t.pc, .int .i64 S.t.rc, .int .i64 S.t.sq, .int .i64 S.t.wo, .int .i64 S.t.lk, .int .i64 S.t.cu, .int .i64 S.t.pv, .int .i64 S.t.nt, .int .i64 S.t.mx, .int .i64 S.t.ps, .int .i64 S.t.rn, .slice none 0 0] 25)).alloc (.cells #[.int .u8 S.k, .int .i32 S.v] 49) = w6
        have hb6 : Below w5.heap.size w5 w6 := by subst hW6; exact ((Below.refl _ _).alloc (Nat.le_refl _) _).alloc (by simp) _
        have HX6 := Lib.hid (show TX w6 w5.heap.size S.t (.slice none 0 0) by subst hW6; exact (TX.new w5 S.t _).alloc _)
        have HR6 := Lib.hid (r5.fresh hb6)
        have hgt : ¬ gt = w5.heap.size := by have := r5.x.lt; omega
        have HNEXT := Lib.hid (show RR W p gt 13 (clS WD h o k (k + 1)).1 (clS WD h o k (k + 1)).2.1 (clS WD h o k (k + 1)).2.2 (setT w6 gt S.t (.slice none 0 0)) by rw [HNXT.out]; exact HR6.out.put S.t)
        clear hW6 hb6 r5 HNXT HK
        have x := HX6.out
        have y := HR6.out.x
        have yf := y.f
        have c0 := x.c0
        have c1 := x.c1
        have c2 := x.c2
        have c3 := x.c3
        have c4 := x.c4
        have c5 := x.c5
        have c6 := x.c6
        have c7 := x.c7
        have c8 := x.c8
        have c9 := x.c9
        have c10 := x.c10
        have c11 := x.c11
        have c12 := x.c12
        have r0 := y.c0
        have r1 := y.c1
        have r2 := y.c2
        have r3 := y.c3
        have r4 := y.c4
        have r5 := y.c5
        have r6 := y.c6
        have r7 := y.c7
        have r8 := y.c8
        have r9 := y.c9
        have r10 := y.c10
        have r11 := y.c11
        have r12 := y.c12
        clear x y HX6 HR6
        go_wp2
        go_roundw
        case rel => exact ⟨k + 1, HLT.out, by go_num, HNEXT.out⟩
        case measure => simp [intOf]; omega
      · have HE := Lib.hid (show clS WD h o N (k + 1) = one 13 (T, zs, st) by rw [HNX.out, pre1, if_neg (by simpa using hkw)])
        have HQ := Lib.hid (show ad T.rc 0 = T.rc ∧ 0 ≤ st ∧ st < 1000000 by have := HI.out; exact ⟨this.1, by omega, by omega⟩)
        have i2 : ¬ (k : Int) = (N : Int) := by omega
        clear HI HNX hkw
        obtain ⟨ys, hys⟩ : ∃ ys, zs = ys := ⟨_, rfl⟩
        obtain ⟨sq, hsq⟩ : ∃ sq, st = sq := ⟨_, rfl⟩
        rw [hys, hsq] at HK HE
        rw [hsq] at HQ
        clear hys hsq
        obtain ⟨wq, hwq⟩ : ∃ wq, wq = wr := ⟨_, rfl⟩
        rw [← hwq] at HK ⊢
        clear hwq
        have C := HK.out.stepR T HQ.out.1 HQ.out.2.1 HQ.out.2.2
        obtain ⟨S, hS⟩ : ∃ S, stp 13 T ys = S := ⟨_, rfl⟩
        have HNXT := Lib.hid (show (clS WD h o N (k + 1)) = (S.t, S.zs, sq + S.c) by rw [HE.out]; unfold one; rw [hS])
        rw [hS, show thN T = .agg #[.int .i64 T.ti, .int .i64 T.pc, .int .i64 T.rc, .int .i64 T.sq, .int .i64 T.wo, .int .i64 T.lk, .int .i64 T.cu, .int .i64 T.pv, .int .i64 T.nt, .int .i64 T.mx, .int .i64 T.ps, .int .i64 T.rn, .slice none 0 0] from rfl, show thN S.t = .agg #[.int .i64 S.t.ti, .int .i64 S.t.pc, .int .i64 S.t.rc, .int .i64 S.t.sq, .int .i64 S.t.wo, .int .i64 S.t.lk, .int .i64 S.t.cu, .int .i64 S.t.pv, .int .i64 S.t.nt, .int .i64 S.t.mx, .int .i64 S.t.ps, .int .i64 S.t.rn, .slice none 0 0] from rfl] at C
        have HC := Lib.hid C
        have x := HK.out.x
        have c0 := x.c0
        have c1 := x.c1
        have c2 := x.c2
        have c3 := x.c3
        have c4 := x.c4
        have c5 := x.c5
        have c6 := x.c6
        have c7 := x.c7
        have c8 := x.c8
        have c9 := x.c9
        have c10 := x.c10
        have c11 := x.c11
        have c12 := x.c12
        clear C hS x HE HQ
        go_wp2_with fail
        with_reducible refine HC.out.mono ?_
        clear HC c0 c1 c2 c3 c4 c5 c6 c7 c8 c9 c10 c11 c12
        rintro e w5 ⟨rfl, r5⟩
        go_upto_region 13 with (fail)
        generalize hW6 : (w5.alloc (.cells #[.int .i64 S.t.ti, .int .i64 S.t.pc, .int .i64 S.t.rc, .int .i64 S.t.sq, .int .i64 S.t.wo, .int .i64 S.t.lk, .int .i64 S.t.cu, .int .i64 S.t.pv, .int .i64 S.t.nt, .int .i64 S.t.mx, .int .i64 S.t.ps, .int .i64 S.t.rn, .slice none 0 0] 25)).alloc (.cells #[.int .u8 S.k, .int .i32 S.v] 49) = w6
        have hb6 : Below w5.heap.size w5 w6 := by subst hW6; exact ((Below.refl _ _).alloc (Nat.le_refl _) _).alloc (by simp) _
        have HX6 := Lib.hid (show TX w6 w5.heap.size S.t (.slice none 0 0) by subst hW6; exact (TX.new w5 S.t _).alloc _)
        have HR6 := Lib.hid (r5.fresh hb6)
        have hgt : ¬ gt = w5.heap.size := by have := r5.x.lt; omega
        have HNEXT := Lib.hid (show RR W p gt 13 (clS WD h o N (k + 1)).1 (clS WD h o N (k + 1)).2.1 (clS WD h o N (k + 1)).2.2 (setT w6 gt S.t (.slice none 0 0)) by rw [HNXT.out]; exact HR6.out.put S.t)
        clear hW6 hb6 r5 HNXT HK
        have x := HX6.out
        have y := HR6.out.x
        have yf := y.f
        have c0 := x.c0
        have c1 := x.c1
        have c2 := x.c2
        have c3 := x.c3
        have c4 := x.c4
        have c5 := x.c5
        have c6 := x.c6
        have c7 := x.c7
        have c8 := x.c8
        have c9 := x.c9
        have c10 := x.c10
        have c11 := x.c11
        have c12 := x.c12
        have r0 := y.c0
        have r1 := y.c1
        have r2 := y.c2
        have r3 := y.c3
        have r4 := y.c4
        have r5 := y.c5
        have r6 := y.c6
        have r7 := y.c7
        have r8 := y.c8
        have r9 := y.c9
        have r10 := y.c10
        have r11 := y.c11
        have r12 := y.c12
        clear x y HX6 HR6
        go_wp2
        go_roundw
        case rel => exact ⟨k + 1, HLT.out, by go_num, HNEXT.out⟩
        case measure => simp [intOf]; omega
    · obtain rfl : k = 9 := by omega
      obtain ⟨T, st, he, hpc, hrc⟩ := clE WD h o N HN.out.1 HN.out.2
      have HI := clI WD h o N HN.out.1 HN.out.2 8 (by decide)
      have HST := Lib.hid (clST WD h o N HN.out.1 HN.out.2)
      rw [he] at hK HST
      have HK := Lib.hid (show RR W p gt 13 T [0, clN h o N, 0, WD, clA h o N, 0, clX h o N, 0] st wr from hK)
      have HS := Lib.hid (show 2 ≤ st ∧ st ≤ 30 from HST.out)
      have HPC := Lib.hid hpc
      clear hK he hpc hrc HI hlt hk HST
      rcases (show (N ≤ 5) ∨ (N = 6 ∧ ¬ o = h) ∨ (N = 7 ∧ ¬ o = h) ∨ (N = 6 ∧ o = h) ∨ (N = 7 ∧ o = h) ∨ N = 8 from by have := HN.out; omega) with h5 | ⟨rfl, hoh⟩ | ⟨rfl, hoh⟩ | ⟨rfl, rfl⟩ | ⟨rfl, rfl⟩ | rfl
      · have e1 : clN h o N = 3 := by unfold clN; rw [if_neg (by omega), if_neg (by omega)]
        have e2 : clA h o N = 1 := by unfold clA; rw [if_neg (by omega)]
        have e3 : clX h o N = o := by unfold clX; rw [if_pos (by omega)]
        rw [e1, e2, e3] at HK
        have i6 : ¬ (N : Int) = 6 := by omega
        have i7 : ¬ (N : Int) = 7 := by omega
        have i8 : ¬ (N : Int) = 8 := by omega
        have i9 : (N : Int) < 6 := by omega
        clear e1 e2 e3 h5
        have C := HK.out.loadR 1 (by decide) (by simp) (by have := HS.out; omega) (by have := HS.out; omega)
        have HC := Lib.hid (show Calls Try.prog 26 #[.pointer (some ⟨p, 0, none⟩), .int .i64 1] wr fun e w' => e = .returned (.tuple #[.int .i64 (3), .int .u16 0]) ∧ RR W p gt 13 T [0, 3, 0, WD, 1, 0, o, 0] (st + 1) w' from C)
        clear C HK
        go_wp2_with fail
        with_reducible refine HC.out.mono ?_
        clear HC
        rintro e w5 ⟨rfl, r5⟩
        have HR5 := Lib.hid r5
        have HC := Lib.hid (show Calls Try.prog 27 #[.pointer (some ⟨p, 0, none⟩), .int .i64 3] w5 fun e w' => e = .returned (.tuple #[.agg #[.int .i64 WD, .int .i64 (1), .int .i64 0, .int .i64 (o), .int .i64 0], .bool true]) ∧ Below w5.heap.size w5 w' from seeIn r5.m 0 (show 0 < mn 8 by decide))
        clear r5
        go_wp2_with fail
        with_reducible refine HC.out.mono ?_
        clear HC
        rintro e w6 ⟨rfl, b6⟩
        go_upto_region 16 with (fail)
        generalize hW7 : w6.alloc (.cells #[.int .i64 WD, .int .i64 (1), .int .i64 0, .int .i64 (o), .int .i64 0] 61) = w7
        have HB7 := Lib.hid (show B5 w7 w6.heap.size 61 WD (1) 0 (o) 0 by subst hW7; exact B5.new _ _ _ _ _ _ _)
        have HR7 := Lib.hid (HR5.out.fresh (show Below w5.heap.size w5 w7 by subst hW7; exact b6.alloc b6.size _))
        clear hW7 b6 HR5
        have hwp := HWP.out
        go_wp2_with fail
        refine (known w7).mono ?_
        rintro e w8 ⟨rfl, b8⟩
        have HR8 := Lib.hid (HR7.out.fresh b8)
        have HB8 := Lib.hid (HB7.out.keep b8)
        clear b8 HR7 HB7
        have x1 := HR8.out.x.c1
        rw [HPC.out] at x1
        have z0 := HB8.out.c0
        have z1 := HB8.out.c1
        have z3 := HB8.out.c3
        go_wp2
        go_ret
        refine ⟨?_, HBW.out.trans (HR8.out.b.mono HBW.out.size)⟩
        first | rfl | simp | (simp; done) | (simp; omega)
      · have e1 : clN h o 6 = o := by simp [clN, hoh]
        have e2 : clA h o 6 = 0 := by simp [clA, hoh]
        have e3 : clX h o 6 = h := by simp [clX]
        rw [e1, e2, e3] at HK
        have hb : (o == h) = false := by simpa using hoh
        clear e1 e2 e3
        have C := HK.out.loadR 1 (by decide) (by simp) (by have := HS.out; omega) (by have := HS.out; omega)
        have HC := Lib.hid (show Calls Try.prog 26 #[.pointer (some ⟨p, 0, none⟩), .int .i64 1] wr fun e w' => e = .returned (.tuple #[.int .i64 (o), .int .u16 0]) ∧ RR W p gt 13 T [0, o, 0, WD, 0, 0, h, 0] (st + 1) w' from C)
        clear C HK
        go_wp2_with fail
        with_reducible refine HC.out.mono ?_
        clear HC
        rintro e w5 ⟨rfl, r5⟩
        have HR5 := Lib.hid r5
        have HC := Lib.hid (show Calls Try.prog 27 #[.pointer (some ⟨p, 0, none⟩), .int .i64 3] w5 fun e w' => e = .returned (.tuple #[.agg #[.int .i64 WD, .int .i64 (0), .int .i64 0, .int .i64 (h), .int .i64 0], .bool true]) ∧ Below w5.heap.size w5 w' from seeIn r5.m 0 (show 0 < mn 8 by decide))
        clear r5
        go_wp2_with fail
        with_reducible refine HC.out.mono ?_
        clear HC
        rintro e w6 ⟨rfl, b6⟩
        go_upto_region 16 with (fail)
        generalize hW7 : w6.alloc (.cells #[.int .i64 WD, .int .i64 (0), .int .i64 0, .int .i64 (h), .int .i64 0] 61) = w7
        have HB7 := Lib.hid (show B5 w7 w6.heap.size 61 WD (0) 0 (h) 0 by subst hW7; exact B5.new _ _ _ _ _ _ _)
        have HR7 := Lib.hid (HR5.out.fresh (show Below w5.heap.size w5 w7 by subst hW7; exact b6.alloc b6.size _))
        clear hW7 b6 HR5
        have hwp := HWP.out
        go_wp2_with fail
        refine (known w7).mono ?_
        rintro e w8 ⟨rfl, b8⟩
        have HR8 := Lib.hid (HR7.out.fresh b8)
        have HB8 := Lib.hid (HB7.out.keep b8)
        clear b8 HR7 HB7
        have x1 := HR8.out.x.c1
        rw [HPC.out] at x1
        have z0 := HB8.out.c0
        have z1 := HB8.out.c1
        have z3 := HB8.out.c3
        go_wp2
        go_ret
        refine ⟨?_, HBW.out.trans (HR8.out.b.mono HBW.out.size)⟩
        first | rfl | simp | (simp; done) | (simp; omega)
      · have e1 : clN h o 7 = o := by simp [clN, hoh]
        have e2 : clA h o 7 = 0 := by simp [clA, hoh]
        have e3 : clX h o 7 = h := by simp [clX]
        rw [e1, e2, e3] at HK
        have hb : (o == h) = false := by simpa using hoh
        clear e1 e2 e3
        have C := HK.out.loadR 1 (by decide) (by simp) (by have := HS.out; omega) (by have := HS.out; omega)
        have HC := Lib.hid (show Calls Try.prog 26 #[.pointer (some ⟨p, 0, none⟩), .int .i64 1] wr fun e w' => e = .returned (.tuple #[.int .i64 (o), .int .u16 0]) ∧ RR W p gt 13 T [0, o, 0, WD, 0, 0, h, 0] (st + 1) w' from C)
        clear C HK
        go_wp2_with fail
        with_reducible refine HC.out.mono ?_
        clear HC
        rintro e w5 ⟨rfl, r5⟩
        have HR5 := Lib.hid r5
        have HC := Lib.hid (show Calls Try.prog 27 #[.pointer (some ⟨p, 0, none⟩), .int .i64 3] w5 fun e w' => e = .returned (.tuple #[.agg #[.int .i64 WD, .int .i64 (0), .int .i64 0, .int .i64 (h), .int .i64 0], .bool true]) ∧ Below w5.heap.size w5 w' from seeIn r5.m 0 (show 0 < mn 8 by decide))
        clear r5
        go_wp2_with fail
        with_reducible refine HC.out.mono ?_
        clear HC
        rintro e w6 ⟨rfl, b6⟩
        go_upto_region 16 with (fail)
        generalize hW7 : w6.alloc (.cells #[.int .i64 WD, .int .i64 (0), .int .i64 0, .int .i64 (h), .int .i64 0] 61) = w7
        have HB7 := Lib.hid (show B5 w7 w6.heap.size 61 WD (0) 0 (h) 0 by subst hW7; exact B5.new _ _ _ _ _ _ _)
        have HR7 := Lib.hid (HR5.out.fresh (show Below w5.heap.size w5 w7 by subst hW7; exact b6.alloc b6.size _))
        clear hW7 b6 HR5
        have hwp := HWP.out
        go_wp2_with fail
        refine (known w7).mono ?_
        rintro e w8 ⟨rfl, b8⟩
        have HR8 := Lib.hid (HR7.out.fresh b8)
        have HB8 := Lib.hid (HB7.out.keep b8)
        clear b8 HR7 HB7
        have x1 := HR8.out.x.c1
        rw [HPC.out] at x1
        have z0 := HB8.out.c0
        have z1 := HB8.out.c1
        have z3 := HB8.out.c3
        go_wp2
        go_ret
        refine ⟨?_, HBW.out.trans (HR8.out.b.mono HBW.out.size)⟩
        first | rfl | simp | (simp; done) | (simp; omega)
      · have e1 : clN o o 6 = 3 := by simp [clN]
        have e2 : clA o o 6 = 1 := by simp [clA]
        have e3 : clX o o 6 = o := by simp [clX]
        rw [e1, e2, e3] at HK
        clear e1 e2 e3
        have C := HK.out.loadR 1 (by decide) (by simp) (by have := HS.out; omega) (by have := HS.out; omega)
        have HC := Lib.hid (show Calls Try.prog 26 #[.pointer (some ⟨p, 0, none⟩), .int .i64 1] wr fun e w' => e = .returned (.tuple #[.int .i64 (3), .int .u16 0]) ∧ RR W p gt 13 T [0, 3, 0, WD, 1, 0, o, 0] (st + 1) w' from C)
        clear C HK
        go_wp2_with fail
        with_reducible refine HC.out.mono ?_
        clear HC
        rintro e w5 ⟨rfl, r5⟩
        have HR5 := Lib.hid r5
        have HC := Lib.hid (show Calls Try.prog 27 #[.pointer (some ⟨p, 0, none⟩), .int .i64 3] w5 fun e w' => e = .returned (.tuple #[.agg #[.int .i64 WD, .int .i64 (1), .int .i64 0, .int .i64 (o), .int .i64 0], .bool true]) ∧ Below w5.heap.size w5 w' from seeIn r5.m 0 (show 0 < mn 8 by decide))
        clear r5
        go_wp2_with fail
        with_reducible refine HC.out.mono ?_
        clear HC
        rintro e w6 ⟨rfl, b6⟩
        go_upto_region 16 with (fail)
        generalize hW7 : w6.alloc (.cells #[.int .i64 WD, .int .i64 (1), .int .i64 0, .int .i64 (o), .int .i64 0] 61) = w7
        have HB7 := Lib.hid (show B5 w7 w6.heap.size 61 WD (1) 0 (o) 0 by subst hW7; exact B5.new _ _ _ _ _ _ _)
        have HR7 := Lib.hid (HR5.out.fresh (show Below w5.heap.size w5 w7 by subst hW7; exact b6.alloc b6.size _))
        clear hW7 b6 HR5
        have hwp := HWP.out
        go_wp2_with fail
        refine (known w7).mono ?_
        rintro e w8 ⟨rfl, b8⟩
        have HR8 := Lib.hid (HR7.out.fresh b8)
        have HB8 := Lib.hid (HB7.out.keep b8)
        clear b8 HR7 HB7
        have x1 := HR8.out.x.c1
        rw [HPC.out] at x1
        have z0 := HB8.out.c0
        have z1 := HB8.out.c1
        have z3 := HB8.out.c3
        go_wp2
        go_ret
        refine ⟨?_, HBW.out.trans (HR8.out.b.mono HBW.out.size)⟩
        first | rfl | simp | (simp; done) | (simp; omega)
      · have e1 : clN o o 7 = 3 := by simp [clN]
        have e2 : clA o o 7 = 1 := by simp [clA]
        have e3 : clX o o 7 = o := by simp [clX]
        rw [e1, e2, e3] at HK
        clear e1 e2 e3
        have C := HK.out.loadR 1 (by decide) (by simp) (by have := HS.out; omega) (by have := HS.out; omega)
        have HC := Lib.hid (show Calls Try.prog 26 #[.pointer (some ⟨p, 0, none⟩), .int .i64 1] wr fun e w' => e = .returned (.tuple #[.int .i64 (3), .int .u16 0]) ∧ RR W p gt 13 T [0, 3, 0, WD, 1, 0, o, 0] (st + 1) w' from C)
        clear C HK
        go_wp2_with fail
        with_reducible refine HC.out.mono ?_
        clear HC
        rintro e w5 ⟨rfl, r5⟩
        have HR5 := Lib.hid r5
        have HC := Lib.hid (show Calls Try.prog 27 #[.pointer (some ⟨p, 0, none⟩), .int .i64 3] w5 fun e w' => e = .returned (.tuple #[.agg #[.int .i64 WD, .int .i64 (1), .int .i64 0, .int .i64 (o), .int .i64 0], .bool true]) ∧ Below w5.heap.size w5 w' from seeIn r5.m 0 (show 0 < mn 8 by decide))
        clear r5
        go_wp2_with fail
        with_reducible refine HC.out.mono ?_
        clear HC
        rintro e w6 ⟨rfl, b6⟩
        go_upto_region 16 with (fail)
        generalize hW7 : w6.alloc (.cells #[.int .i64 WD, .int .i64 (1), .int .i64 0, .int .i64 (o), .int .i64 0] 61) = w7
        have HB7 := Lib.hid (show B5 w7 w6.heap.size 61 WD (1) 0 (o) 0 by subst hW7; exact B5.new _ _ _ _ _ _ _)
        have HR7 := Lib.hid (HR5.out.fresh (show Below w5.heap.size w5 w7 by subst hW7; exact b6.alloc b6.size _))
        clear hW7 b6 HR5
        have hwp := HWP.out
        go_wp2_with fail
        refine (known w7).mono ?_
        rintro e w8 ⟨rfl, b8⟩
        have HR8 := Lib.hid (HR7.out.fresh b8)
        have HB8 := Lib.hid (HB7.out.keep b8)
        clear b8 HR7 HB7
        have x1 := HR8.out.x.c1
        rw [HPC.out] at x1
        have z0 := HB8.out.c0
        have z1 := HB8.out.c1
        have z3 := HB8.out.c3
        go_wp2
        go_ret
        refine ⟨?_, HBW.out.trans (HR8.out.b.mono HBW.out.size)⟩
        first | rfl | simp | (simp; done) | (simp; omega)
      · have e1 : clN h o 8 = o := by simp [clN]
        have e2 : clA h o 8 = 1 := by simp [clA]
        have e3 : clX h o 8 = h := by simp [clX]
        rw [e1, e2, e3] at HK
        clear e1 e2 e3
        have C := HK.out.loadR 1 (by decide) (by simp) (by have := HS.out; omega) (by have := HS.out; omega)
        have HC := Lib.hid (show Calls Try.prog 26 #[.pointer (some ⟨p, 0, none⟩), .int .i64 1] wr fun e w' => e = .returned (.tuple #[.int .i64 (o), .int .u16 0]) ∧ RR W p gt 13 T [0, o, 0, WD, 1, 0, h, 0] (st + 1) w' from C)
        clear C HK
        go_wp2_with fail
        with_reducible refine HC.out.mono ?_
        clear HC
        rintro e w5 ⟨rfl, r5⟩
        have HR5 := Lib.hid r5
        have HC := Lib.hid (show Calls Try.prog 27 #[.pointer (some ⟨p, 0, none⟩), .int .i64 3] w5 fun e w' => e = .returned (.tuple #[.agg #[.int .i64 WD, .int .i64 (1), .int .i64 0, .int .i64 (h), .int .i64 0], .bool true]) ∧ Below w5.heap.size w5 w' from seeIn r5.m 0 (show 0 < mn 8 by decide))
        clear r5
        go_wp2_with fail
        with_reducible refine HC.out.mono ?_
        clear HC
        rintro e w6 ⟨rfl, b6⟩
        go_upto_region 16 with (fail)
        generalize hW7 : w6.alloc (.cells #[.int .i64 WD, .int .i64 (1), .int .i64 0, .int .i64 (h), .int .i64 0] 61) = w7
        have HB7 := Lib.hid (show B5 w7 w6.heap.size 61 WD (1) 0 (h) 0 by subst hW7; exact B5.new _ _ _ _ _ _ _)
        have HR7 := Lib.hid (HR5.out.fresh (show Below w5.heap.size w5 w7 by subst hW7; exact b6.alloc b6.size _))
        clear hW7 b6 HR5
        have hwp := HWP.out
        go_wp2_with fail
        refine (known w7).mono ?_
        rintro e w8 ⟨rfl, b8⟩
        have HR8 := Lib.hid (HR7.out.fresh b8)
        have HB8 := Lib.hid (HB7.out.keep b8)
        clear b8 HR7 HB7
        have x1 := HR8.out.x.c1
        rw [HPC.out] at x1
        have z0 := HB8.out.c0
        have z1 := HB8.out.c1
        have z3 := HB8.out.c3
        go_wp2
        go_ret
        refine ⟨?_, HBW.out.trans (HR8.out.b.mono HBW.out.size)⟩
        first | rfl | simp | (simp; done) | (simp; omega)

end Go.Proofs.Ythefdglocnalhaa.M2
