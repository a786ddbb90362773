/-
  The walk of OwnerTold: for every operation, result and number it answers true and leaves all old memory as it was.
-/
import Derived.Test.YthefdglocnalhaaRun15m
import Derived.Test.YthefdglocnalhaaTldPl15m
import Derived.Deep.Cut
namespace Go.Proofs.Ythefdglocnalhaa.M2
open Go.RowKit

theorem RR.stepKK {w a : World} {p gt : Nat} {size : Int} {T : Th} {zs : List Int} {st : Int} (h : RR w p gt size T zs st a) (t : Th) (hr : ad t.rc 0 = t.rc) (k0 : 0 ≤ st) (k1 : st < 1000000) :
    Calls Try.prog 21 #[.pointer (some ⟨p, 0, none⟩), thN t] a fun e w' => e = .returned (.tuple #[thN (stp size t zs).t, .agg #[.int .u8 (stp size t zs).k, .int .i32 (stp size t zs).v], .bool (stp size t zs).d]) ∧ RR w p gt size T (stp size t zs).zs (st + (stp size t zs).c) w' ∧ Kept a w' :=
  (stepK h.m t hr k0 k1).mono fun _ _ ⟨he, m, b, k⟩ => ⟨he, h.to m b k, k⟩

set_option maxRecDepth 100000 in
set_option maxHeartbeats 16000000 in
theorem toldWalk (kd vl rk rv kn : Int) (ho : OpOk (kd, vl)) (hres : OpOk (rk, rv)) (w0 : 0 ≤ kn) (w1 : kn ≤ 255) (w : World) :
    Calls Try.prog 6 #[.agg #[.int .u8 kd, .int .i32 vl], .agg #[.int .u8 rk, .int .i32 rv], .int .u8 kn] w fun e w' => e = .returned (.bool true) ∧ Below w.heap.size w w' := by
  have HT0 := Lib.hid (show thN t0 = .agg #[.int .i64 0, .int .i64 0, .int .i64 0, .int .i64 0, .int .i64 0, .int .i64 0, .int .i64 0, .int .i64 0, .int .i64 0, .int .i64 0, .int .i64 0, .int .i64 0, .slice none 0 0] from rfl)
  have HO := Lib.hid ho
  have HRS := Lib.hid hres
  have HWP := Lib.hid (show 0 < wd kd vl by have h : 1 ≤ wd kd vl := (wd_bd ho.1.1 ho.1.2 ho.2.1 ho.2.2).1; omega)
  clear ho hres
  have heq := eqRes rk rv
  go_enter Try.func6, Try.ntmps6
  go_wp2_with fail
  generalize hW : (w.alloc (.cells #[.int .u8 kd, .int .i32 vl] 27)).alloc (.cells #[.int .u8 rk, .int .i32 rv] 49) = W
  have HOB := Lib.hid (show W.heap[w.heap.size]? = some (.cells #[.int .u8 kd, .int .i32 vl] 27 (0, 0)) by subst hW; exact (Below.heap_alloc _ _ _ (by simp)).trans (heap_alloc_new w _))
  have HRB := Lib.hid (show RB W (w.heap.size + 1) rk rv by
    subst hW
    have := RB.new (w.alloc (.cells #[.int .u8 kd, .int .i32 vl] 27)) rk rv
    simpa using this)
  have HBW := Lib.hid (show Below w.heap.size w W by subst hW; exact ((Below.refl _ _).alloc (Nat.le_refl _) _).alloc (by simp) _)
  clear hW
  refine (openIn 1 (by omega) (by omega) W).mono ?_
  rintro e v1 ⟨rfl, m1, b1⟩
  have HM1 := Lib.hid (show Mem1 v1 W.heap.size W.heap.size 8 [0, 0, 0] 1 from m1)
  have HB1 := Lib.hid b1
  have hob : v1.heap[w.heap.size]? = some (.cells #[.int .u8 kd, .int .i32 vl] 27 (0, 0)) := (b1.block _ (lt_of_block HOB.out)).trans HOB.out
  have o0 : v1.cell? ⟨w.heap.size, 0, none⟩ = some (.int .u8 kd) := by simp [World.cell?, hob]
  have o1 : v1.cell? ⟨w.heap.size, 1, none⟩ = some (.int .i32 vl) := by simp [World.cell?, hob]
  clear m1 b1 hob
  have C := beginN v1 t0 kd vl HO.out
  rw [HT0.out] at C
  obtain ⟨WD, hWD⟩ : ∃ WD, wd kd vl = WD := ⟨_, rfl⟩
  rw [hWD] at C HWP
  have HWD := Lib.hid hWD
  have HC := Lib.hid C
  clear C hWD
  go_wp2_with fail
  with_reducible refine HC.out.mono ?_
  clear HC
  rintro e v2 ⟨rfl, b2⟩
  obtain ⟨T, hT⟩ : ∃ T, bgT t0 WD = T := ⟨_, rfl⟩
  rw [hT, show thN T = .agg #[.int .i64 T.ti, .int .i64 T.pc, .int .i64 T.rc, .int .i64 T.sq, .int .i64 T.wo, .int .i64 T.lk, .int .i64 T.cu, .int .i64 T.pv, .int .i64 T.nt, .int .i64 T.mx, .int .i64 T.ps, .int .i64 T.rn, .slice none 0 0] from rfl]
  have HTB := Lib.hid hT
  clear hT
  go_upto_region 3 with (fail)
  generalize hW3 : v2.alloc (.cells #[.int .i64 T.ti, .int .i64 T.pc, .int .i64 T.rc, .int .i64 T.sq, .int .i64 T.wo, .int .i64 T.lk, .int .i64 T.cu, .int .i64 T.pv, .int .i64 T.nt, .int .i64 T.mx, .int .i64 T.ps, .int .i64 T.rn, .slice none 0 0] 25) = v3
  have hb3 : Below v1.heap.size v1 v3 := by subst hW3; exact b2.alloc b2.size _
  have HR := Lib.hid (show RR W W.heap.size v2.heap.size 8 (tdS WD 0).1 (tdS WD 0).2.1 (tdS WD 0).2.2 v3 from ⟨HM1.out.keep hb3, by rw [show (tdS WD 0).1 = T from HTB.out]; subst hW3; exact TX.new v2 T _, HB1.out.trans (hb3.mono HB1.out.size), Nat.le_trans HB1.out.size b2.size⟩)
  clear hW3 hb3 b2 HM1 HB1 o0 o1 HTB
  generalize W.heap.size = p at HR
  generalize v2.heap.size = gt at *
  go_upto_region 5 with (fail)
  go_wp2_with fail
  go_loopw [10] (fun kv wr => ∃ k : Nat, k ≤ 9 ∧ kv = .int .i64 (k : Int) ∧ RR W p gt 8 (tdS WD k).1 (tdS WD k).2.1 (tdS WD k).2.2 wr) (fun kv _ => 9 - (intOf kv).toNat)
  case atStart => exact ⟨0, by omega, rfl, HR.out⟩
  case round =>
    obtain ⟨k, hk, rfl, hK⟩ := hrel
    clear HR
    by_cases hlt : k < 9
    · have HI := Lib.hid (tdI WD k hlt)
      have HLT := Lib.hid hlt
      have i1 : (k : Int) < 9 := by omega
      have HNX := Lib.hid (show tdS WD (k + 1) = one 8 (tdS WD k) from rfl)
      obtain ⟨T, hT⟩ : ∃ T, (tdS WD k).1 = T := ⟨_, rfl⟩
      obtain ⟨ys, hys⟩ : ∃ ys, (tdS WD k).2.1 = ys := ⟨_, rfl⟩
      obtain ⟨sq, hsq⟩ : ∃ sq, (tdS WD k).2.2 = sq := ⟨_, rfl⟩
      rw [show tdS WD k = (T, ys, sq) by rw [← hT, ← hys, ← hsq]] at HNX
      rw [hT, hsq] at HI
      rw [hT, hys, hsq] at hK
      have HE := HNX
      have HQ := Lib.hid (show ad T.rc 0 = T.rc ∧ 0 ≤ sq ∧ sq < 1000000 by have := HI.out; exact ⟨this.1, by omega, by omega⟩)
      obtain ⟨wq, hwq⟩ : ∃ wq, wq = wr := ⟨_, rfl⟩
      rw [← hwq] at hK ⊢
      have HK := Lib.hid hK
      clear hT hys hsq hK hlt hk HI HNX hwq
      have C := HK.out.stepR T HQ.out.1 HQ.out.2.1 HQ.out.2.2
      obtain ⟨S, hS⟩ : ∃ S, stp 8 T ys = S := ⟨_, rfl⟩
      have HNXT := Lib.hid (show (tdS WD (k + 1)) = (S.t, S.zs, sq + S.c) by rw [HE.out]; unfold one; rw [hS])
      rw [hS, show thN T = .agg #[.int .i64 T.ti, .int .i64 T.pc, .int .i64 T.rc, .int .i64 T.sq, .int .i64 T.wo, .int .i64 T.lk, .int .i64 T.cu, .int .i64 T.pv, .int .i64 T.nt, .int .i64 T.mx, .int .i64 T.ps, .int .i64 T.rn, .slice none 0 0] from rfl, show thN S.t = .agg #[.int .i64 S.t.ti, .int .i64 S.t.pc, .int .i64 S.t.rc, .int .i64 S.t.sq, .int .i64 S.t.wo, .int .i64 S.t.lk, .int .i64 S.t.cu, .int .i64 S.t.pv, .int .i64 S.t.nt, .int .i64 S.t.mx, .int .i64 S.t.ps, .int .i64 S.t.rn, .slice none 0 0] from rfl] at C
      have HC := Lib.hid C
      have x := HK.out.x
      have c0 := x.c0
      have c1 := x.c1
      have c2 := x.c2
      have c3 := x.c3
      have c4 := x.c4
      have c5 := x.c5
      have c6 := x.c6
      have c7 := x.c7
      have c8 := x.c8
      have c9 := x.c9
      have c10 := x.c10
      have c11 := x.c11
      have c12 := x.c12
      clear C hS x HE HQ
      go_wp2_with fail
      with_reducible refine HC.out.mono ?_
      clear HC c0 c1 c2 c3 c4 c5 c6 c7 c8 c9 c10 c11 c12
      rintro e w5 ⟨rfl, r5⟩
      go_upto_region 9 with (fail)
      generalize hW6 : (w5.alloc (.cells #[.int .i64 S.t.ti, .int .i64 S.t.pc, .int .i64 S.t.rc, .int .i64 S.t.sq, .int .i64 S.t.wo, .int .i64 S.t.lk, .int .i64 S.t.cu, .int .i64 S.t.pv, .int .i64 S.t.nt, .int .i64 S.t.mx, .int .i64 S.t.ps, .int .i64 S.t.rn, .slice none 0 0] 25)).alloc (.cells #[.int .u8 S.k, .int .i32 S.v] 49) = w6
      have hb6 : Below w5.heap.size w5 w6 := by subst hW6; exact ((Below.refl _ _).alloc (Nat.le_refl _) _).alloc (by simp) _
      have HX6 := Lib.hid (show TX w6 w5.heap.size S.t (.slice none 0 0) by subst hW6; exact (TX.new w5 S.t _).alloc _)
      have HR6 := Lib.hid (r5.fresh hb6)
      have hgt : ¬ gt = w5.heap.size := by have := r5.x.lt; omega
      have HNEXT := Lib.hid (show RR W p gt 8 (tdS WD (k + 1)).1 (tdS WD (k + 1)).2.1 (tdS WD (k + 1)).2.2 (setT w6 gt S.t (.slice none 0 0)) by rw [HNXT.out]; exact HR6.out.put S.t)
      clear hW6 hb6 r5 HNXT HK
      have x := HX6.out
      have y := HR6.out.x
      have yf := y.f
      have c0 := x.c0
      have c1 := x.c1
      have c2 := x.c2
      have c3 := x.c3
      have c4 := x.c4
      have c5 := x.c5
      have c6 := x.c6
      have c7 := x.c7
      have c8 := x.c8
      have c9 := x.c9
      have c10 := x.c10
      have c11 := x.c11
      have c12 := x.c12
      have r0 := y.c0
      have r1 := y.c1
      have r2 := y.c2
      have r3 := y.c3
      have r4 := y.c4
      have r5 := y.c5
      have r6 := y.c6
      have r7 := y.c7
      have r8 := y.c8
      have r9 := y.c9
      have r10 := y.c10
      have r11 := y.c11
      have r12 := y.c12
      clear x y HX6 HR6
      go_wp2
      go_roundw
      case rel => exact ⟨k + 1, HLT.out, by go_num, HNEXT.out⟩
      case measure => simp [intOf]; omega
    · obtain rfl : k = 9 := by omega
      rw [tdS9] at hK
      have HK := Lib.hid hK
      clear hK hlt hk
      obtain ⟨m, hm⟩ : ∃ m : Nat, kn % 3 = (m : Int) := ⟨(kn % 3).toNat, by omega⟩
      have HMm := Lib.hid hm
      have m3 : (m : Int) < 3 := by omega
      go_upto_region 11 with (fail)
      rw [show ((9 : Nat) : Int) = 9 from rfl]
      go_loopw [14] (fun qv wr => ∃ q : Nat, q ≤ m * 2 ∧ qv = .int .i64 (q : Int) ∧ RR W p gt 8 (tdQ WD q).1 (tdQ WD q).2.1 (tdQ WD q).2.2 wr) (fun qv _ => 6 - (intOf qv).toNat)
      case atStart => exact ⟨0, by omega, rfl, HK.out⟩
      case round =>
        obtain ⟨q, hq, rfl, hK⟩ := hrel
        clear HK
        have hm := HMm.out
        by_cases hlt : q < m * 2
        · have HI := Lib.hid (tdQI WD q (by omega))
          have HLT := Lib.hid hlt
          have i1 : (q : Int) < kn % 3 * 2 := by omega
          have HNX := Lib.hid (show tdQ WD (q + 1) = one 8 (pre0 (tdQ WD q)) from rfl)
          obtain ⟨T, hT⟩ : ∃ T, (tdQ WD q).1 = T := ⟨_, rfl⟩
          obtain ⟨zs, hzs⟩ : ∃ zs, (tdQ WD q).2.1 = zs := ⟨_, rfl⟩
          obtain ⟨st, hst⟩ : ∃ st, (tdQ WD q).2.2 = st := ⟨_, rfl⟩
          rw [show tdQ WD q = (T, zs, st) by rw [← hT, ← hzs, ← hst]] at HNX
          rw [hT, hzs, hst] at HI hK
          have C := hK.storeR 0 9 (by decide) (by have := HI.out.2.1; omega) (by have := HI.out; omega) (by have := HI.out; omega)
          have HC := Lib.hid C
          have HE := Lib.hid (show tdQ WD (q + 1) = one 8 (T, zs.set 0 9, st + 1) from HNX.out)
          have HQ := Lib.hid (show ad T.rc 0 = T.rc ∧ 0 ≤ st + 1 ∧ st + 1 < 1000000 by have := HI.out; exact ⟨this.1, by omega, by omega⟩)
          clear C HI HNX hT hzs hst hlt hq hK
          go_wp2_with fail
          with_reducible refine HC.out.mono ?_
          clear HC
          rintro e wq ⟨rfl, r5⟩
          have HK := Lib.hid (show RR W p gt 8 T (zs.set 0 9) (st + 1) wq from r5)
          clear r5
          obtain ⟨ys, hys⟩ : ∃ ys, zs.set 0 9 = ys := ⟨_, rfl⟩
          obtain ⟨sq, hsq⟩ : ∃ sq, st + 1 = sq := ⟨_, rfl⟩
          rw [hys, hsq] at HK HE
          rw [hsq] at HQ
          clear hys hsq
          have C := HK.out.stepR T HQ.out.1 HQ.out.2.1 HQ.out.2.2
          obtain ⟨S, hS⟩ : ∃ S, stp 8 T ys = S := ⟨_, rfl⟩
          have HNXT := Lib.hid (show (tdQ WD (q + 1)) = (S.t, S.zs, sq + S.c) by rw [HE.out]; unfold one; rw [hS])
          rw [hS, show thN T = .agg #[.int .i64 T.ti, .int .i64 T.pc, .int .i64 T.rc, .int .i64 T.sq, .int .i64 T.wo, .int .i64 T.lk, .int .i64 T.cu, .int .i64 T.pv, .int .i64 T.nt, .int .i64 T.mx, .int .i64 T.ps, .int .i64 T.rn, .slice none 0 0] from rfl, show thN S.t = .agg #[.int .i64 S.t.ti, .int .i64 S.t.pc, .int .i64 S.t.rc, .int .i64 S.t.sq, .int .i64 S.t.wo, .int .i64 S.t.lk, .int .i64 S.t.cu, .int .i64 S.t.pv, .int .i64 S.t.nt, .int .i64 S.t.mx, .int .i64 S.t.ps, .int .i64 S.t.rn, .slice none 0 0] from rfl] at C
          have HC := Lib.hid C
          have x := HK.out.x
          have c0 := x.c0
          have c1 := x.c1
          have c2 := x.c2
          have c3 := x.c3
          have c4 := x.c4
          have c5 := x.c5
          have c6 := x.c6
          have c7 := x.c7
          have c8 := x.c8
          have c9 := x.c9
          have c10 := x.c10
          have c11 := x.c11
          have c12 := x.c12
          clear C hS x HE HQ
          go_wp2_with fail
          with_reducible refine HC.out.mono ?_
          clear HC c0 c1 c2 c3 c4 c5 c6 c7 c8 c9 c10 c11 c12
          rintro e w5 ⟨rfl, r5⟩
          go_upto_region 15 with (fail)
          generalize hW6 : (w5.alloc (.cells #[.int .i64 S.t.ti, .int .i64 S.t.pc, .int .i64 S.t.rc, .int .i64 S.t.sq, .int .i64 S.t.wo, .int .i64 S.t.lk, .int .i64 S.t.cu, .int .i64 S.t.pv, .int .i64 S.t.nt, .int .i64 S.t.mx, .int .i64 S.t.ps, .int .i64 S.t.rn, .slice none 0 0] 25)).alloc (.cells #[.int .u8 S.k, .int .i32 S.v] 49) = w6
          have hb6 : Below w5.heap.size w5 w6 := by subst hW6; exact ((Below.refl _ _).alloc (Nat.le_refl _) _).alloc (by simp) _
          have HX6 := Lib.hid (show TX w6 w5.heap.size S.t (.slice none 0 0) by subst hW6; exact (TX.new w5 S.t _).alloc _)
          have HR6 := Lib.hid (r5.fresh hb6)
          have hgt : ¬ gt = w5.heap.size := by have := r5.x.lt; omega
          have HNEXT := Lib.hid (show RR W p gt 8 (tdQ WD (q + 1)).1 (tdQ WD (q + 1)).2.1 (tdQ WD (q + 1)).2.2 (setT w6 gt S.t (.slice none 0 0)) by rw [HNXT.out]; exact HR6.out.put S.t)
          clear hW6 hb6 r5 HNXT HK
          have x := HX6.out
          have y := HR6.out.x
          have yf := y.f
          have c0 := x.c0
          have c1 := x.c1
          have c2 := x.c2
          have c3 := x.c3
          have c4 := x.c4
          have c5 := x.c5
          have c6 := x.c6
          have c7 := x.c7
          have c8 := x.c8
          have c9 := x.c9
          have c10 := x.c10
          have c11 := x.c11
          have c12 := x.c12
          have r0 := y.c0
          have r1 := y.c1
          have r2 := y.c2
          have r3 := y.c3
          have r4 := y.c4
          have r5 := y.c5
          have r6 := y.c6
          have r7 := y.c7
          have r8 := y.c8
          have r9 := y.c9
          have r10 := y.c10
          have r11 := y.c11
          have r12 := y.c12
          clear x y HX6 HR6
          go_wp2
          go_roundw
          case rel => exact ⟨q + 1, HLT.out, by go_num, HNEXT.out⟩
          case measure => simp [intOf]; omega
        · obtain rfl : q = m * 2 := by omega
          have i1 : ¬ ((m * 2 : Nat) : Int) < kn % 3 * 2 := by omega
          obtain ⟨lk, l0, st, he, hs0, hs1⟩ := tdQE WD m (by omega)
          rw [he] at hK
          have C := hK.storeR 0 9 (by decide) (by simp) hs0 (show st < 1000000 by omega)
          have HC := Lib.hid (show Calls Try.prog 19 #[.pointer (some ⟨p, 0, none⟩), .int .i64 0, .int .i64 9] wr fun e w' => e = .returned (.int .u16 0) ∧ RR W p gt 8 (tdA WD lk) [9, 3, 0, WD, 1, 0, 0, 0] (st + 1) w' from C)
          have HS := Lib.hid (And.intro hs0 hs1)
          clear C hK he hs0 hs1 hlt hq
          go_wp2_with fail
          with_reducible refine HC.out.mono ?_
          clear HC
          rintro e w1 ⟨rfl, r1⟩
          have HR1 := Lib.hid r1
          have rb := HRB.out.keep (r1.b.mono (Nat.le_refl _))
          have rb0 := (r1.b.cell (p := ⟨w.heap.size + 1, 0, none⟩) HRB.out.lt).trans HRB.out.c0
          have rb1 := (r1.b.cell (p := ⟨w.heap.size + 1, 1, none⟩) HRB.out.lt).trans HRB.out.c1
          have C := refRes rk rv HRS.out.1.1 HRS.out.1.2 HRS.out.2.1 HRS.out.2.2 w1
          obtain ⟨RW, hRW⟩ : ∃ RW, wd rk rv = RW := ⟨_, rfl⟩
          have HRW := Lib.hid hRW
          rw [hRW] at C
          have HC := Lib.hid C
          clear C r1 rb hRW
          go_wp2_with fail
          with_reducible refine HC.out.mono ?_
          clear HC rb0 rb1
          rintro e w2 ⟨rfl, f2⟩
          have r2 := HR1.out.fresh f2.below
          have C := r2.storeR 7 RW (by decide) (by simp) (by have := HS.out; omega) (by have := HS.out; omega)
          have HC := Lib.hid (show Calls Try.prog 19 #[.pointer (some ⟨p, 0, none⟩), .int .i64 7, .int .i64 RW] w2 fun e w' => e = .returned (.int .u16 0) ∧ RR W p gt 8 (tdA WD lk) [9, 3, 0, WD, 1, 0, 0, RW] (st + 1 + 1) w' from C)
          clear C r2 f2 HR1
          go_wp2_with fail
          with_reducible refine HC.out.mono ?_
          clear HC
          rintro e w3 ⟨rfl, r3⟩
          have C := r3.storeR 3 0 (by decide) (by simp) (by have := HS.out; omega) (by have := HS.out; omega)
          have HC := Lib.hid (show Calls Try.prog 19 #[.pointer (some ⟨p, 0, none⟩), .int .i64 3, .int .i64 0] w3 fun e w' => e = .returned (.int .u16 0) ∧ RR W p gt 8 (tdA WD lk) [9, 3, 0, 0, 1, 0, 0, RW] (st + 1 + 1 + 1) w' from C)
          clear C r3
          go_wp2_with fail
          with_reducible refine HC.out.mono ?_
          clear HC
          rintro e w4 ⟨rfl, r4⟩
          have C := r4.stepR (tdA WD lk) ad30 (by have := HS.out; omega) (by have := HS.out; omega)
          rw [tdB_of WD lk RW HWP.out, show thN (tdA WD lk) = .agg #[.int .i64 0, .int .i64 11, .int .i64 3, .int .i64 1, .int .i64 WD, .int .i64 lk, .int .i64 0, .int .i64 0, .int .i64 0, .int .i64 0, .int .i64 0, .int .i64 0, .slice none 0 0] from rfl, show thN (tdB WD) = .agg #[.int .i64 0, .int .i64 14, .int .i64 3, .int .i64 1, .int .i64 WD, .int .i64 0, .int .i64 0, .int .i64 0, .int .i64 0, .int .i64 0, .int .i64 0, .int .i64 0, .slice none 0 0] from rfl] at C
          have HC := Lib.hid C
          have x := r4.x
          have c0 : _ = some (Value.int .i64 0) := x.c0
          have c1 : _ = some (Value.int .i64 11) := x.c1
          have c2 : _ = some (Value.int .i64 3) := x.c2
          have c3 : _ = some (Value.int .i64 1) := x.c3
          have c4 : _ = some (Value.int .i64 WD) := x.c4
          have c5 : _ = some (Value.int .i64 lk) := x.c5
          have c6 : _ = some (Value.int .i64 0) := x.c6
          have c7 : _ = some (Value.int .i64 0) := x.c7
          have c8 : _ = some (Value.int .i64 0) := x.c8
          have c9 : _ = some (Value.int .i64 0) := x.c9
          have c10 : _ = some (Value.int .i64 0) := x.c10
          have c11 : _ = some (Value.int .i64 0) := x.c11
          have c12 : _ = some (Value.slice none 0 0) := x.c12
          have HR4 := Lib.hid r4
          clear C x r4
          go_wp2_with fail
          with_reducible refine HC.out.mono ?_
          clear HC c0 c1 c2 c3 c4 c5 c6 c7 c8 c9 c10 c11 c12
          rintro e w5 ⟨rfl, r5⟩
          go_upto_region 20 with (fail)
          generalize hW6 : (w5.alloc (.cells #[.int .i64 0, .int .i64 14, .int .i64 3, .int .i64 1, .int .i64 WD, .int .i64 0, .int .i64 0, .int .i64 0, .int .i64 0, .int .i64 0, .int .i64 0, .int .i64 0, .slice none 0 0] 25)).alloc (.cells #[.int .u8 0, .int .i32 0] 49) = w6
          have hb6 : Below w5.heap.size w5 w6 := by subst hW6; exact ((Below.refl _ _).alloc (Nat.le_refl _) _).alloc (by simp) _
          have HX6 := Lib.hid (show TX w6 w5.heap.size (tdB WD) (.slice none 0 0) by subst hW6; exact (TX.new w5 (tdB WD) _).alloc _)
          have HR6 := Lib.hid (r5.fresh hb6)
          clear hW6 hb6 r5 HR4
          generalize w5.heap.size = g1 at *
          have C := HR6.out.stepKK (tdB WD) ad30 (by have := HS.out; omega) (by have := HS.out; omega)
          have hk := rK_wd HRS.out
          rw [HRW.out] at hk
          rw [tdC_of WD RW, hk.1, hk.2, show thN (tdB WD) = .agg #[.int .i64 0, .int .i64 14, .int .i64 3, .int .i64 1, .int .i64 WD, .int .i64 0, .int .i64 0, .int .i64 0, .int .i64 0, .int .i64 0, .int .i64 0, .int .i64 0, .slice none 0 0] from rfl, show thN (tdC RW) = .agg #[.int .i64 0, .int .i64 0, .int .i64 3, .int .i64 1, .int .i64 0, .int .i64 RW, .int .i64 0, .int .i64 0, .int .i64 0, .int .i64 0, .int .i64 0, .int .i64 0, .slice none 0 0] from rfl] at C
          have HC := Lib.hid C
          have x := HX6.out
          have c0 : _ = some (Value.int .i64 0) := x.c0
          have c1 : _ = some (Value.int .i64 14) := x.c1
          have c2 : _ = some (Value.int .i64 3) := x.c2
          have c3 : _ = some (Value.int .i64 1) := x.c3
          have c4 : _ = some (Value.int .i64 WD) := x.c4
          have c5 : _ = some (Value.int .i64 0) := x.c5
          have c6 : _ = some (Value.int .i64 0) := x.c6
          have c7 : _ = some (Value.int .i64 0) := x.c7
          have c8 : _ = some (Value.int .i64 0) := x.c8
          have c9 : _ = some (Value.int .i64 0) := x.c9
          have c10 : _ = some (Value.int .i64 0) := x.c10
          have c11 : _ = some (Value.int .i64 0) := x.c11
          have c12 : _ = some (Value.slice none 0 0) := x.c12
          clear C x hk
          go_wp2_with fail
          with_reducible refine HC.out.mono ?_
          clear HC c0 c1 c2 c3 c4 c5 c6 c7 c8 c9 c10 c11 c12
          rintro e w7 ⟨rfl, r7, k7⟩
          have HX7 := Lib.hid (HX6.out.off k7)
          go_upto_region 21 with (fail)
          generalize hW8 : (w7.alloc (.cells #[.int .i64 0, .int .i64 0, .int .i64 3, .int .i64 1, .int .i64 0, .int .i64 RW, .int .i64 0, .int .i64 0, .int .i64 0, .int .i64 0, .int .i64 0, .int .i64 0, .slice none 0 0] 25)).alloc (.cells #[.int .u8 rk, .int .i32 rv] 49) = w8
          have hb8 : Below w7.heap.size w7 w8 := by subst hW8; exact ((Below.refl _ _).alloc (Nat.le_refl _) _).alloc (by simp) _
          have HX8 := Lib.hid (HX7.out.keep hb8)
          have HY8 := Lib.hid (show TX w8 w7.heap.size (tdC RW) (.slice none 0 0) by subst hW8; exact (TX.new w7 (tdC RW) _).alloc _)
          have HZ8 := Lib.hid (show RB w8 (w7.heap.size + 1) rk rv by
            subst hW8
            have := RB.new (w7.alloc (.cells #[.int .i64 0, .int .i64 0, .int .i64 3, .int .i64 1, .int .i64 0, .int .i64 RW, .int .i64 0, .int .i64 0, .int .i64 0, .int .i64 0, .int .i64 0, .int .i64 0, .slice none 0 0] 25)) rk rv
            simpa using this)
          have HR8 := Lib.hid (r7.fresh hb8)
          clear hW8 hb8 r7 k7 HX7 HX6 HR6
          generalize w7.heap.size = g3 at *
          have HOC := Lib.hid (show ∀ V, Below W.heap.size W V → V.cell? ⟨w.heap.size, 0, none⟩ = some (.int .u8 kd) ∧ V.cell? ⟨w.heap.size, 1, none⟩ = some (.int .i32 vl) from fun V hV => by
            have e1 := (hV.block _ (lt_of_block HOB.out)).trans HOB.out
            exact ⟨by simp [World.cell?, e1], by simp [World.cell?, e1]⟩)
          have C := beginN w8 (tdC RW) kd vl HO.out
          rw [HWD.out, tdD_of, show thN (tdC RW) = .agg #[.int .i64 0, .int .i64 0, .int .i64 3, .int .i64 1, .int .i64 0, .int .i64 RW, .int .i64 0, .int .i64 0, .int .i64 0, .int .i64 0, .int .i64 0, .int .i64 0, .slice none 0 0] from rfl, show thN (⟨0, 2, 3, 2, WD, RW, 0, 0, 0, 0, 0, 0⟩ : Th) = .agg #[.int .i64 0, .int .i64 2, .int .i64 3, .int .i64 2, .int .i64 WD, .int .i64 RW, .int .i64 0, .int .i64 0, .int .i64 0, .int .i64 0, .int .i64 0, .int .i64 0, .slice none 0 0] from rfl, show ((tdC RW).pc == 0) = true from rfl] at C
          have HC := Lib.hid C
          obtain ⟨o0, o1⟩ := HOC.out w8 HR8.out.b
          have x := HY8.out
          have c0 : _ = some (Value.int .i64 0) := x.c0
          have c1 : _ = some (Value.int .i64 0) := x.c1
          have c2 : _ = some (Value.int .i64 3) := x.c2
          have c3 : _ = some (Value.int .i64 1) := x.c3
          have c4 : _ = some (Value.int .i64 0) := x.c4
          have c5 : _ = some (Value.int .i64 RW) := x.c5
          have c6 : _ = some (Value.int .i64 0) := x.c6
          have c7 : _ = some (Value.int .i64 0) := x.c7
          have c8 : _ = some (Value.int .i64 0) := x.c8
          have c9 : _ = some (Value.int .i64 0) := x.c9
          have c10 : _ = some (Value.int .i64 0) := x.c10
          have c11 : _ = some (Value.int .i64 0) := x.c11
          have c12 : _ = some (Value.slice none 0 0) := x.c12
          clear C x
          go_wp2_with fail
          with_reducible refine HC.out.mono ?_
          clear HC c0 c1 c2 c3 c4 c5 c6 c7 c8 c9 c10 c11 c12 o0 o1
          rintro e w9 ⟨rfl, b9⟩
          go_upto_region 22 with (fail)
          generalize hW10 : w9.alloc (.cells #[.int .i64 0, .int .i64 2, .int .i64 3, .int .i64 2, .int .i64 WD, .int .i64 RW, .int .i64 0, .int .i64 0, .int .i64 0, .int .i64 0, .int .i64 0, .int .i64 0, .slice none 0 0] 25) = w10
          have hb10 : Below w8.heap.size w8 w10 := by subst hW10; exact b9.alloc b9.size _
          have HX10 := Lib.hid (And.intro (HX8.out.keep hb10) (And.intro (HY8.out.keep hb10) (HZ8.out.keep hb10)))
          have HW10 := Lib.hid (show TX w10 w9.heap.size ⟨0, 2, 3, 2, WD, RW, 0, 0, 0, 0, 0, 0⟩ (.slice none 0 0) by subst hW10; exact TX.new w9 ⟨0, 2, 3, 2, WD, RW, 0, 0, 0, 0, 0, 0⟩ _)
          have HR10 := Lib.hid (HR8.out.fresh hb10)
          clear hW10 hb10 b9 HX8 HY8 HZ8 HR8
          generalize w9.heap.size = g5 at *
          have C := beginN w10 (tdB WD) kd vl HO.out
          rw [HWD.out, tdB_no, show thN (tdB WD) = .agg #[.int .i64 0, .int .i64 14, .int .i64 3, .int .i64 1, .int .i64 WD, .int .i64 0, .int .i64 0, .int .i64 0, .int .i64 0, .int .i64 0, .int .i64 0, .int .i64 0, .slice none 0 0] from rfl, show ((tdB WD).pc == 0) = false from rfl] at C
          have HC := Lib.hid C
          obtain ⟨o0, o1⟩ := HOC.out w10 HR10.out.b
          have x := HX10.out.1
          have c0 : _ = some (Value.int .i64 0) := x.c0
          have c1 : _ = some (Value.int .i64 14) := x.c1
          have c2 : _ = some (Value.int .i64 3) := x.c2
          have c3 : _ = some (Value.int .i64 1) := x.c3
          have c4 : _ = some (Value.int .i64 WD) := x.c4
          have c5 : _ = some (Value.int .i64 0) := x.c5
          have c6 : _ = some (Value.int .i64 0) := x.c6
          have c7 : _ = some (Value.int .i64 0) := x.c7
          have c8 : _ = some (Value.int .i64 0) := x.c8
          have c9 : _ = some (Value.int .i64 0) := x.c9
          have c10 : _ = some (Value.int .i64 0) := x.c10
          have c11 : _ = some (Value.int .i64 0) := x.c11
          have c12 : _ = some (Value.slice none 0 0) := x.c12
          clear C x
          go_wp2_with fail
          with_reducible refine HC.out.mono ?_
          clear HC c0 c1 c2 c3 c4 c5 c6 c7 c8 c9 c10 c11 c12 o0 o1
          rintro e w11 ⟨rfl, b11⟩
          go_upto_region 23 with (fail)
          generalize hW12 : w11.alloc (.cells #[.int .i64 0, .int .i64 14, .int .i64 3, .int .i64 1, .int .i64 WD, .int .i64 0, .int .i64 0, .int .i64 0, .int .i64 0, .int .i64 0, .int .i64 0, .int .i64 0, .slice none 0 0] 25) = w12
          have hb12 : Below w10.heap.size w10 w12 := by subst hW12; exact b11.alloc b11.size _
          have HX12 := Lib.hid (And.intro (HX10.out.1.keep hb12) (And.intro (HX10.out.2.1.keep hb12) (And.intro (HX10.out.2.2.keep hb12) (HW10.out.keep hb12))))
          have HR12 := Lib.hid (HR10.out.fresh hb12)
          clear hW12 hb12 b11 HX10 HW10 HR10
          go_wp2_with fail
          refine (known w12).mono ?_
          rintro e w13 ⟨rfl, b13⟩
          have a1 : _ = some (Value.int .i64 14) := (HX12.out.1.keep b13).c1
          have hy := HX12.out.2.1.keep b13
          have a2 : _ = some (Value.int .i64 0) := hy.c1
          have a3 : _ = some (Value.int .i64 0) := hy.c4
          have a4 : _ = some (Value.int .i64 3) := hy.c2
          have hz := HX12.out.2.2.1.keep b13
          have a5 := hz.c0
          have a6 := hz.c1
          have hu := HX12.out.2.2.2.keep b13
          have a7 : _ = some (Value.int .i64 2) := hu.c1
          have a8 : _ = some (Value.int .i64 2) := hu.c3
          have r13 := HR12.out.fresh b13
          have a9 := (r13.b.cell (p := ⟨w.heap.size + 1, 0, none⟩) HRB.out.lt).trans HRB.out.c0
          have a10 := (r13.b.cell (p := ⟨w.heap.size + 1, 1, none⟩) HRB.out.lt).trans HRB.out.c1
          have HEND := Lib.hid (HBW.out.trans (r13.b.mono HBW.out.size))
          clear hy hz hu r13 HX12 HR12 b13
          go_wp2
          go_ret
          exact ⟨rfl, HEND.out⟩
          skip

end Go.Proofs.Ythefdglocnalhaa.M2
