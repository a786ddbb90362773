/-
  The walk of OwnerLate: for every operation, result, choice and number it answers true and leaves all old memory as it was.
-/
import Derived.Test.YthefdglocnalhaaLatPl15m
import Derived.Test.YthefdglocnalhaaRecA15
import Derived.Deep.Cut
namespace Go.Proofs.Ythefdglocnalhaa.M2
open Go.RowKit

theorem loadKk {w a : World} {p gt : Nat} {size : Int} {T : Th} {zs : List Int} {st : Int} (h : RR w p gt size T zs st a) (i : Int) (h0 : 0 ≤ i) (h1 : i < zs.length) (k0 : 0 ≤ st) (k1 : st < 1000000) :
    Calls Try.prog 26 #[.pointer (some ⟨p, 0, none⟩), .int .i64 i] a fun e w' => e = .returned (.tuple #[.int .i64 (zs.getD i.toNat 0), .int .u16 0]) ∧ RR w p gt size T zs (st + 1) w' ∧ Kept a w' := by
  obtain ⟨v, m⟩ := h.m
  exact (loadIn m i h0 h1 k0 k1).mono fun e w' ⟨he, d⟩ => ⟨he, h.to (d.one m).1 (d.one m).2 (d.kept m), d.kept m⟩

set_option maxRecDepth 100000 in
set_option maxHeartbeats 16000000 in
theorem lateWalk (kd vl rk rv : Int) (served : Bool) (ot : Int) (ho : OpOk (kd, vl)) (hres : OpOk (rk, rv)) (_ : -9223372036854775808 ≤ ot) (_ : ot ≤ 9223372036854775807) (w : World) :
    Calls Try.prog 9 #[.agg #[.int .u8 kd, .int .i32 vl], .agg #[.int .u8 rk, .int .i32 rv], .bool served, .int .i64 ot] w fun e w' => e = .returned (.bool true) ∧ Below w.heap.size w w' := by
  have HT0 := Lib.hid (show thN t0 = .agg #[.int .i64 0, .int .i64 0, .int .i64 0, .int .i64 0, .int .i64 0, .int .i64 0, .int .i64 0, .int .i64 0, .int .i64 0, .int .i64 0, .int .i64 0, .int .i64 0, .slice none 0 0] from rfl)
  have HO := Lib.hid ho
  have HRS := Lib.hid hres
  have HWP := Lib.hid (show 0 < wd kd vl by have h : 1 ≤ wd kd vl := (wd_bd ho.1.1 ho.1.2 ho.2.1 ho.2.2).1; omega)
  clear ho hres
  have heq := eqRes rk rv
  go_enter Try.func9, Try.ntmps9
  go_wp2_with fail
  generalize hW : (w.alloc (.cells #[.int .u8 kd, .int .i32 vl] 27)).alloc (.cells #[.int .u8 rk, .int .i32 rv] 49) = W
  have HOB := Lib.hid (show W.heap[w.heap.size]? = some (.cells #[.int .u8 kd, .int .i32 vl] 27 (0, 0)) by subst hW; exact (Below.heap_alloc _ _ _ (by simp)).trans (heap_alloc_new w _))
  have HRB := Lib.hid (show RB W (w.heap.size + 1) rk rv by
    subst hW
    have := RB.new (w.alloc (.cells #[.int .u8 kd, .int .i32 vl] 27)) rk rv
    simpa using this)
  have HBW := Lib.hid (show Below w.heap.size w W by subst hW; exact ((Below.refl _ _).alloc (Nat.le_refl _) _).alloc (by simp) _)
  clear hW
  refine (openIn 2 (by omega) (by omega) W).mono ?_
  rintro e v1 ⟨rfl, m1, b1⟩
  have HM1 := Lib.hid (show Mem1 v1 W.heap.size W.heap.size 13 [0, 0, 0] 1 from m1)
  have HB1 := Lib.hid b1
  have hob : v1.heap[w.heap.size]? = some (.cells #[.int .u8 kd, .int .i32 vl] 27 (0, 0)) := (b1.block _ (lt_of_block HOB.out)).trans HOB.out
  have o0 : v1.cell? ⟨w.heap.size, 0, none⟩ = some (.int .u8 kd) := by simp [World.cell?, hob]
  have o1 : v1.cell? ⟨w.heap.size, 1, none⟩ = some (.int .i32 vl) := by simp [World.cell?, hob]
  clear m1 b1 hob
  have C := beginN v1 t0 kd vl HO.out
  rw [HT0.out] at C
  obtain ⟨WD, hWD⟩ : ∃ WD, wd kd vl = WD := ⟨_, rfl⟩
  rw [hWD] at C HWP
  have HWD := Lib.hid hWD
  have HC := Lib.hid C
  clear C hWD
  go_wp2_with fail
  with_reducible refine HC.out.mono ?_
  clear HC
  rintro e v2 ⟨rfl, b2⟩
  obtain ⟨T, hT⟩ : ∃ T, bgT t0 WD = T := ⟨_, rfl⟩
  rw [hT, show thN T = .agg #[.int .i64 T.ti, .int .i64 T.pc, .int .i64 T.rc, .int .i64 T.sq, .int .i64 T.wo, .int .i64 T.lk, .int .i64 T.cu, .int .i64 T.pv, .int .i64 T.nt, .int .i64 T.mx, .int .i64 T.ps, .int .i64 T.rn, .slice none 0 0] from rfl]
  have HTB := Lib.hid hT
  clear hT
  go_upto_region 3 with (fail)
  generalize hW3 : v2.alloc (.cells #[.int .i64 T.ti, .int .i64 T.pc, .int .i64 T.rc, .int .i64 T.sq, .int .i64 T.wo, .int .i64 T.lk, .int .i64 T.cu, .int .i64 T.pv, .int .i64 T.nt, .int .i64 T.mx, .int .i64 T.ps, .int .i64 T.rn, .slice none 0 0] 25) = v3
  have hb3 : Below v1.heap.size v1 v3 := by subst hW3; exact b2.alloc b2.size _
  have HR := Lib.hid (show RR W W.heap.size v2.heap.size 13 (lt0 WD).1 (lt0 WD).2.1 (lt0 WD).2.2 v3 from ⟨HM1.out.keep hb3, by rw [show (lt0 WD).1 = T from HTB.out]; subst hW3; exact TX.new v2 T _, HB1.out.trans (hb3.mono HB1.out.size), Nat.le_trans HB1.out.size b2.size⟩)
  clear hW3 hb3 b2 HM1 HB1 o0 o1 HTB
  generalize W.heap.size = p at HR
  generalize v2.heap.size = gt at *
  go_upto_region 5 with (fail)
  go_wp2_with fail
  go_loopw [12] (fun kv wr => ∃ k : Nat, k ≤ 3 ∧ kv = .int .i64 (k : Int) ∧ RR W p gt 13 (itS 13 (lt0 WD) k).1 (itS 13 (lt0 WD) k).2.1 (itS 13 (lt0 WD) k).2.2 wr) (fun kv _ => 3 - (intOf kv).toNat)
  case atStart => exact ⟨0, by omega, rfl, HR.out⟩
  case round =>
    obtain ⟨k, hk, rfl, hK⟩ := hrel
    clear HR
    by_cases hlt : k < 3
    · have HI := Lib.hid (lt0I WD k hlt)
      have HLT := Lib.hid hlt
      have i1 : (k : Int) < 3 := by omega
      have HNX := Lib.hid (show itS 13 (lt0 WD) (k + 1) = one 13 (itS 13 (lt0 WD) k) from rfl)
      obtain ⟨T, hT⟩ : ∃ T, (itS 13 (lt0 WD) k).1 = T := ⟨_, rfl⟩
      obtain ⟨ys, hys⟩ : ∃ ys, (itS 13 (lt0 WD) k).2.1 = ys := ⟨_, rfl⟩
      obtain ⟨sq, hsq⟩ : ∃ sq, (itS 13 (lt0 WD) k).2.2 = sq := ⟨_, rfl⟩
      rw [show itS 13 (lt0 WD) k = (T, ys, sq) by rw [← hT, ← hys, ← hsq]] at HNX
      rw [hT, hsq] at HI
      rw [hT, hys, hsq] at hK
      have HE := HNX
      have HQ := Lib.hid (show ad T.rc 0 = T.rc ∧ 0 ≤ sq ∧ sq < 1000000 by have := HI.out; exact ⟨this.1, by omega, by omega⟩)
      obtain ⟨wq, hwq⟩ : ∃ wq, wq = wr := ⟨_, rfl⟩
      rw [← hwq] at hK ⊢
      have HK := Lib.hid hK
      clear hT hys hsq hK hlt hk HI HNX hwq
      have C := HK.out.stepR T HQ.out.1 HQ.out.2.1 HQ.out.2.2
      obtain ⟨S, hS⟩ : ∃ S, stp 13 T ys = S := ⟨_, rfl⟩
      have HNXT := Lib.hid (show (itS 13 (lt0 WD) (k + 1)) = (S.t, S.zs, sq + S.c) by rw [HE.out]; unfold one; rw [hS])
      rw [hS, show thN T = .agg #[.int .i64 T.ti, .int .i64 T.pc, .int .i64 T.rc, .int .i64 T.sq, .int .i64 T.wo, .int .i64 T.lk, .int .i64 T.cu, .int .i64 T.pv, .int .i64 T.nt, .int .i64 T.mx, .int .i64 T.ps, .int .i64 T.rn, .slice none 0 0] from rfl, show thN S.t = .agg #[.int .i64 S.t.ti, .int .i64 S.t.pc, .int .i64 S.t.rc, .int .i64 S.t.sq, .int .i64 S.t.wo, .int .i64 S.t.lk, .int .i64 S.t.cu, .int .i64 S.t.pv, .int .i64 S.t.nt, .int .i64 S.t.mx, .int .i64 S.t.ps, .int .i64 S.t.rn, .slice none 0 0] from rfl] at C
      have HC := Lib.hid C
      have x := HK.out.x
      have c0 := x.c0
      have c1 := x.c1
      have c2 := x.c2
      have c3 := x.c3
      have c4 := x.c4
      have c5 := x.c5
      have c6 := x.c6
      have c7 := x.c7
      have c8 := x.c8
      have c9 := x.c9
      have c10 := x.c10
      have c11 := x.c11
      have c12 := x.c12
      clear C hS x HE HQ
      go_wp2_with fail
      with_reducible refine HC.out.mono ?_
      clear HC c0 c1 c2 c3 c4 c5 c6 c7 c8 c9 c10 c11 c12
      rintro e w5 ⟨rfl, r5⟩
      go_upto_region 9 with (fail)
      generalize hW6 : (w5.alloc (.cells #[.int .i64 S.t.ti, .int .i64 S.t.pc, .int .i64 S.t.rc, .int .i64 S.t.sq, .int .i64 S.t.wo, .int .i64 S.t.lk, .int .i64 S.t.cu, .int .i64 S.t.pv, .int .i64 S.t.nt, .int .i64 S.t.mx, .int .i64 S.t.ps, .int .i64 S.t.rn, .slice none 0 0] 25)).alloc (.cells #[.int .u8 S.k, .int .i32 S.v] 49) = w6
      have hb6 : Below w5.heap.size w5 w6 := by subst hW6; exact ((Below.refl _ _).alloc (Nat.le_refl _) _).alloc (by simp) _
      have HX6 := Lib.hid (show TX w6 w5.heap.size S.t (.slice none 0 0) by subst hW6; exact (TX.new w5 S.t _).alloc _)
      have HR6 := Lib.hid (r5.fresh hb6)
      have hgt : ¬ gt = w5.heap.size := by have := r5.x.lt; omega
      have HNEXT := Lib.hid (show RR W p gt 13 (itS 13 (lt0 WD) (k + 1)).1 (itS 13 (lt0 WD) (k + 1)).2.1 (itS 13 (lt0 WD) (k + 1)).2.2 (setT w6 gt S.t (.slice none 0 0)) by rw [HNXT.out]; exact HR6.out.put S.t)
      clear hW6 hb6 r5 HNXT HK
      have x := HX6.out
      have y := HR6.out.x
      have yf := y.f
      have c0 := x.c0
      have c1 := x.c1
      have c2 := x.c2
      have c3 := x.c3
      have c4 := x.c4
      have c5 := x.c5
      have c6 := x.c6
      have c7 := x.c7
      have c8 := x.c8
      have c9 := x.c9
      have c10 := x.c10
      have c11 := x.c11
      have c12 := x.c12
      have r0 := y.c0
      have r1 := y.c1
      have r2 := y.c2
      have r3 := y.c3
      have r4 := y.c4
      have r5 := y.c5
      have r6 := y.c6
      have r7 := y.c7
      have r8 := y.c8
      have r9 := y.c9
      have r10 := y.c10
      have r11 := y.c11
      have r12 := y.c12
      clear x y HX6 HR6
      go_wp2
      go_roundw
      case rel => exact ⟨k + 1, HLT.out, by go_num, HNEXT.out⟩
      case measure => simp [intOf]; omega
    · obtain rfl : k = 3 := by omega
      rw [lt0E] at hK
      have C := hK.storeR 1 ot (by decide) (by simp) (show (0 : Int) ≤ 4 by decide) (show (4 : Int) < 1000000 by decide)
      have HC := Lib.hid (show Calls Try.prog 19 #[.pointer (some ⟨p, 0, none⟩), .int .i64 1, .int .i64 ot] wr fun e w' => e = .returned (.int .u16 0) ∧ RR W p gt 13 (ltN WD ot).1 (ltN WD ot).2.1 (ltN WD ot).2.2 w' from C)
      clear C hK hlt hk
      go_wp2_with fail
      with_reducible refine HC.out.mono ?_
      clear HC
      rintro e w1 ⟨rfl, r1⟩
      have HR1 := Lib.hid r1
      clear r1
      cases served with
      | false =>
        go_upto_region 17 with (fail)
        generalize hWr : w1.alloc (.cells #[.int .u8 0, .int .i32 0] 49) = v5
        have HR := Lib.hid (HR1.out.fresh (show Below w1.heap.size w1 v5 by subst hWr; exact (Below.refl _ _).alloc (Nat.le_refl _) _))
        have HG0 := Lib.hid (show RB v5 w1.heap.size 0 0 ∧ w1.heap.size ≠ gt ∧ W.heap.size ≤ w1.heap.size by subst hWr; exact ⟨RB.new w1 0 0, by have := HR1.out.x.lt; omega, HR1.out.b.size⟩)
        clear hWr HR1
        generalize w1.heap.size = gr at *
        go_loopw [17, 18] (fun iv nv wr => ∃ (k : Nat) (x y : Int), k ≤ 7 ∧ nv = .int .i64 (k : Int) ∧ iv = .bool (false) ∧ RR W p gt 13 (itS 13 (ltN WD ot) k).1 (itS 13 (ltN WD ot) k).2.1 (itS 13 (ltN WD ot) k).2.2 wr ∧ RB wr gr x y ∧ (True)) (fun _ nv _ => 7 - (intOf nv).toNat)
        case atStart => exact ⟨0, 0, 0, by omega, rfl, rfl, HR.out, HG0.out.1, trivial⟩
        case round =>
          obtain ⟨k, x, y, hk, rfl, rfl, hK, hrb, hfin⟩ := hrel
          clear HR
          by_cases hlt : k < 7
          · have HI := Lib.hid (ltNI WD ot k hlt)
            have HLT := Lib.hid hlt
            have i1 : (k : Int) < 7 := by omega
            skip
            have HNX := Lib.hid (show itS 13 (ltN WD ot) (k + 1) = one 13 (itS 13 (ltN WD ot) k) from rfl)
            obtain ⟨T, hT⟩ : ∃ T, (itS 13 (ltN WD ot) k).1 = T := ⟨_, rfl⟩
            obtain ⟨ys, hys⟩ : ∃ ys, (itS 13 (ltN WD ot) k).2.1 = ys := ⟨_, rfl⟩
            obtain ⟨sq, hsq⟩ : ∃ sq, (itS 13 (ltN WD ot) k).2.2 = sq := ⟨_, rfl⟩
            rw [show itS 13 (ltN WD ot) k = (T, ys, sq) by rw [← hT, ← hys, ← hsq]] at HNX
            rw [hT, hys, hsq] at HI hK
            have HE := HNX
            have HQ := Lib.hid (show ad T.rc 0 = T.rc ∧ 0 ≤ sq ∧ sq < 1000000 by have := HI.out; exact ⟨this.1, by omega, by omega⟩)
            have HD := Lib.hid (show (stp 13 T ys).d = false ∧ True from ⟨HI.out.2.2, trivial⟩)
            obtain ⟨wq, hwq⟩ : ∃ wq, wq = wr := ⟨_, rfl⟩
            rw [← hwq] at hK hrb ⊢
            have HK := Lib.hid hK
            have HG := Lib.hid (And.intro hrb HG0.out.2)
            clear hT hys hsq hK hlt hk HI HNX hwq hrb hfin
            have C := HK.out.stepKL T HQ.out.1 HQ.out.2.1 HQ.out.2.2
            obtain ⟨S, hS⟩ : ∃ S, stp 13 T ys = S := ⟨_, rfl⟩
            have HNXT := Lib.hid (show (itS 13 (ltN WD ot) (k + 1)) = (S.t, S.zs, sq + S.c) by rw [HE.out]; unfold one; rw [hS])
            rw [hS] at HD
            rw [hS, HD.out.1, show thN T = .agg #[.int .i64 T.ti, .int .i64 T.pc, .int .i64 T.rc, .int .i64 T.sq, .int .i64 T.wo, .int .i64 T.lk, .int .i64 T.cu, .int .i64 T.pv, .int .i64 T.nt, .int .i64 T.mx, .int .i64 T.ps, .int .i64 T.rn, .slice none 0 0] from rfl, show thN S.t = .agg #[.int .i64 S.t.ti, .int .i64 S.t.pc, .int .i64 S.t.rc, .int .i64 S.t.sq, .int .i64 S.t.wo, .int .i64 S.t.lk, .int .i64 S.t.cu, .int .i64 S.t.pv, .int .i64 S.t.nt, .int .i64 S.t.mx, .int .i64 S.t.ps, .int .i64 S.t.rn, .slice none 0 0] from rfl] at C
            have HC := Lib.hid C
            have x := HK.out.x
            have c0 := x.c0
            have c1 := x.c1
            have c2 := x.c2
            have c3 := x.c3
            have c4 := x.c4
            have c5 := x.c5
            have c6 := x.c6
            have c7 := x.c7
            have c8 := x.c8
            have c9 := x.c9
            have c10 := x.c10
            have c11 := x.c11
            have c12 := x.c12
            clear C hS x HE HQ
            go_wp2_with fail
            with_reducible refine HC.out.mono ?_
            clear HC c0 c1 c2 c3 c4 c5 c6 c7 c8 c9 c10 c11 c12
            rintro e w5 ⟨rfl, r5, k5⟩
            go_upto_region 19 with (fail)
            generalize hW6 : (w5.alloc (.cells #[.int .i64 S.t.ti, .int .i64 S.t.pc, .int .i64 S.t.rc, .int .i64 S.t.sq, .int .i64 S.t.wo, .int .i64 S.t.lk, .int .i64 S.t.cu, .int .i64 S.t.pv, .int .i64 S.t.nt, .int .i64 S.t.mx, .int .i64 S.t.ps, .int .i64 S.t.rn, .slice none 0 0] 25)).alloc (.cells #[.int .u8 S.k, .int .i32 S.v] 49) = w6
            have hb6 : Below w5.heap.size w5 w6 := by subst hW6; exact ((Below.refl _ _).alloc (Nat.le_refl _) _).alloc (by simp) _
            have HX6 := Lib.hid (show TX w6 w5.heap.size S.t (.slice none 0 0) by subst hW6; exact (TX.new w5 S.t _).alloc _)
            have HZ6 := Lib.hid (show RB w6 (w5.heap.size + 1) S.k S.v by
              subst hW6
              have := RB.new (w5.alloc (.cells #[.int .i64 S.t.ti, .int .i64 S.t.pc, .int .i64 S.t.rc, .int .i64 S.t.sq, .int .i64 S.t.wo, .int .i64 S.t.lk, .int .i64 S.t.cu, .int .i64 S.t.pv, .int .i64 S.t.nt, .int .i64 S.t.mx, .int .i64 S.t.ps, .int .i64 S.t.rn, .slice none 0 0] 25)) S.k S.v
              simpa using this)
            have HR6 := Lib.hid (r5.fresh hb6)
            have HG6 := Lib.hid ((HG.out.1.off' k5).keep hb6)
            have hgt : ¬ gt = w5.heap.size := by have := r5.x.lt; omega
            have hgt2 : ¬ gt = w5.heap.size + 1 := by have := r5.x.lt; omega
            have hgr : ¬ gr = w5.heap.size := by have := (HG.out.1.off' k5).lt; omega
            have hgr2 : ¬ gr = w5.heap.size + 1 := by have := (HG.out.1.off' k5).lt; omega
            have hne : ¬ gr = gt := HG.out.2.1
            have P2 := HR6.out.put2 HG6.out HG.out.2.1 HG.out.2.2 S.t S.k S.v
            have HNEXT := Lib.hid (show RR W p gt 13 (itS 13 (ltN WD ot) (k + 1)).1 (itS 13 (ltN WD ot) (k + 1)).2.1 (itS 13 (ltN WD ot) (k + 1)).2.2 (((setT w6 gt S.t (.slice none 0 0)).setCell ⟨gr, 0, none⟩ (.int .u8 S.k)).setCell ⟨gr, 1, none⟩ (.int .i32 S.v)) by rw [HNXT.out]; exact P2.1)
            have HRES := Lib.hid P2.2
            clear hW6 hb6 r5 k5 HNXT HK P2
            have x := HX6.out
            have y := HR6.out.x
            have yf := y.f
            have z0 := HZ6.out.c0
            have z1 := HZ6.out.c1
            have g0 := HG6.out.c0
            have g1 := HG6.out.c1
            have gf := HG6.out.f
            have c0 := x.c0
            have c1 := x.c1
            have c2 := x.c2
            have c3 := x.c3
            have c4 := x.c4
            have c5 := x.c5
            have c6 := x.c6
            have c7 := x.c7
            have c8 := x.c8
            have c9 := x.c9
            have c10 := x.c10
            have c11 := x.c11
            have c12 := x.c12
            have r0 := y.c0
            have r1 := y.c1
            have r2 := y.c2
            have r3 := y.c3
            have r4 := y.c4
            have r5 := y.c5
            have r6 := y.c6
            have r7 := y.c7
            have r8 := y.c8
            have r9 := y.c9
            have r10 := y.c10
            have r11 := y.c11
            have r12 := y.c12
            clear x y HX6 HR6 HZ6 HG6
            go_wp2
            go_roundw
            case rel => exact ⟨k + 1, S.k, S.v, HLT.out, by go_num, rfl, HNEXT.out, HRES.out, trivial⟩
            case measure => simp [intOf]; omega
          · obtain rfl : k = 7 := by omega
            rw [ltNE] at hK
            have HK := Lib.hid (show RR W p gt 13 ⟨0, 12, 3, 1, WD, WD, 0, 0, 0, 0, 0, 0⟩ [0, 3, 0, WD, 1, 0, ot, 0] 12 wr from hK)
            have HGR := Lib.hid hrb
            skip
            clear hK hlt hk hrb hfin
            rw [show ((7 : Nat) : Int) = 7 from rfl]
            skip
            have HC := Lib.hid (show Calls Try.prog 26 #[.pointer (some ⟨p, 0, none⟩), .int .i64 1] wr fun e w' => e = .returned (.tuple #[.int .i64 (3), .int .u16 0]) ∧ RR W p gt 13 ⟨0, 12, 3, 1, WD, WD, 0, 0, 0, 0, 0, 0⟩ [0, 3, 0, WD, 1, 0, ot, 0] 13 w' ∧ Kept wr w' from (loadKk HK.out 1 (by decide) (by simp) (by decide) (by decide)))
            clear HK
            go_wp2_with fail
            with_reducible refine HC.out.mono ?_
            clear HC
            rintro e w5 ⟨rfl, r5, k5⟩
            have HR5 := Lib.hid r5
            have HG5 := Lib.hid (HGR.out.off' k5)
            have HC := Lib.hid (show Calls Try.prog 27 #[.pointer (some ⟨p, 0, none⟩), .int .i64 3] w5 fun e w' => e = .returned (.tuple #[.agg #[.int .i64 (WD), .int .i64 (1), .int .i64 0, .int .i64 (ot), .int .i64 (0)], .bool true]) ∧ Below w5.heap.size w5 w' from seeIn r5.m 0 (show 0 < mn 8 by decide))
            clear r5 k5 HGR
            go_wp2_with fail
            with_reducible refine HC.out.mono ?_
            clear HC
            rintro e w6 ⟨rfl, b6⟩
            go_upto_region 24 with (fail)
            generalize hW7 : w6.alloc (.cells #[.int .i64 (WD), .int .i64 (1), .int .i64 0, .int .i64 (ot), .int .i64 (0)] 61) = w7
            have HB7 := Lib.hid (show B5 w7 w6.heap.size 61 (WD) (1) 0 (ot) (0) by subst hW7; exact B5.new _ _ _ _ _ _ _)
            have hb7 : Below w5.heap.size w5 w7 := by subst hW7; exact b6.alloc b6.size _
            have HR7 := Lib.hid (HR5.out.fresh hb7)
            have HG7 := Lib.hid (HG5.out.keep hb7)
            clear hW7 b6 HR5 HG5 hb7
            go_wp2_with fail
            refine (known w7).mono ?_
            rintro e w8 ⟨rfl, b8⟩
            have r8 := HR7.out.fresh b8
            have HB8 := Lib.hid (HB7.out.keep b8)
            have a1 : _ = some (Value.int .i64 12) := r8.x.c1
            have z0 := HB8.out.c0
            have z1 := HB8.out.c1
            have z3 := HB8.out.c3
            have g0 := (HG7.out.keep b8).c0
            have g1 := (HG7.out.keep b8).c1
            have a9 := (r8.b.cell (p := ⟨w.heap.size + 1, 0, none⟩) HRB.out.lt).trans HRB.out.c0
            have a10 := (r8.b.cell (p := ⟨w.heap.size + 1, 1, none⟩) HRB.out.lt).trans HRB.out.c1
            have HEND := Lib.hid (HBW.out.trans (r8.b.mono HBW.out.size))
            clear r8 b8 HR7 HB7 HG7
            go_wp2
            go_ret
            exact ⟨rfl, HEND.out⟩
      | true =>
        have rb0 := (HR1.out.b.cell (p := ⟨w.heap.size + 1, 0, none⟩) HRB.out.lt).trans HRB.out.c0
        have rb1 := (HR1.out.b.cell (p := ⟨w.heap.size + 1, 1, none⟩) HRB.out.lt).trans HRB.out.c1
        have C := refRes rk rv HRS.out.1.1 HRS.out.1.2 HRS.out.2.1 HRS.out.2.2 w1
        obtain ⟨RW, hRW⟩ : ∃ RW, wd rk rv = RW := ⟨_, rfl⟩
        have HRW := Lib.hid hRW
        rw [hRW] at C
        have HC := Lib.hid C
        clear C hRW
        go_wp2_with fail
        with_reducible refine HC.out.mono ?_
        clear HC rb0 rb1
        rintro e w2 ⟨rfl, f2⟩
        have r2 := HR1.out.fresh f2.below
        have C := r2.storeR 7 RW (by decide) (by simp [ltN]) (show (0 : Int) ≤ 5 by decide) (show (5 : Int) < 1000000 by decide)
        have HC := Lib.hid (show Calls Try.prog 19 #[.pointer (some ⟨p, 0, none⟩), .int .i64 7, .int .i64 RW] w2 fun e w' => e = .returned (.int .u16 0) ∧ RR W p gt 13 (ltN WD ot).1 [0, ot, 0, WD, 0, 0, 0, RW] 6 w' from C)
        clear C r2 f2 HR1
        go_wp2_with fail
        with_reducible refine HC.out.mono ?_
        clear HC
        rintro e w3 ⟨rfl, r3⟩
        have C := r3.storeR 3 (-1) (by decide) (by simp) (show (0 : Int) ≤ 6 by decide) (show (6 : Int) < 1000000 by decide)
        have HC := Lib.hid (show Calls Try.prog 19 #[.pointer (some ⟨p, 0, none⟩), .int .i64 3, .int .i64 (-1)] w3 fun e w' => e = .returned (.int .u16 0) ∧ RR W p gt 13 (ltY WD ot RW).1 (ltY WD ot RW).2.1 (ltY WD ot RW).2.2 w' from C)
        clear C r3
        go_wp2_with fail
        with_reducible refine HC.out.mono ?_
        clear HC
        rintro e w4 ⟨rfl, r4⟩
        have HR1 := Lib.hid r4
        clear r4
        go_upto_region 17 with (fail)
        generalize hWr : w4.alloc (.cells #[.int .u8 0, .int .i32 0] 49) = v5
        have HR := Lib.hid (HR1.out.fresh (show Below w4.heap.size w4 v5 by subst hWr; exact (Below.refl _ _).alloc (Nat.le_refl _) _))
        have HG0 := Lib.hid (show RB v5 w4.heap.size 0 0 ∧ w4.heap.size ≠ gt ∧ W.heap.size ≤ w4.heap.size by subst hWr; exact ⟨RB.new w4 0 0, by have := HR1.out.x.lt; omega, HR1.out.b.size⟩)
        clear hWr HR1
        generalize w4.heap.size = gr at *
        go_loopw [17, 18] (fun iv nv wr => ∃ (k : Nat) (x y : Int), k ≤ 5 ∧ nv = .int .i64 (k : Int) ∧ iv = .bool (decide (k = 5)) ∧ RR W p gt 13 (itS 13 (ltY WD ot RW) k).1 (itS 13 (ltY WD ot RW) k).2.1 (itS 13 (ltY WD ot RW) k).2.2 wr ∧ RB wr gr x y ∧ (k = 5 → x = rk ∧ y = rv)) (fun _ nv _ => 5 - (intOf nv).toNat)
        case atStart => exact ⟨0, 0, 0, by omega, rfl, rfl, HR.out, HG0.out.1, fun h => by cases h⟩
        case round =>
          obtain ⟨k, x, y, hk, rfl, rfl, hK, hrb, hfin⟩ := hrel
          clear HR
          by_cases hlt : k < 5
          · have HI := Lib.hid (ltYI WD ot RW HWP.out k hlt)
            have HLT := Lib.hid hlt
            have i1 : (k : Int) < 5 := by omega
            rw [decide_eq_false (show ¬ k = 5 by omega)]
            have HNX := Lib.hid (show itS 13 (ltY WD ot RW) (k + 1) = one 13 (itS 13 (ltY WD ot RW) k) from rfl)
            obtain ⟨T, hT⟩ : ∃ T, (itS 13 (ltY WD ot RW) k).1 = T := ⟨_, rfl⟩
            obtain ⟨ys, hys⟩ : ∃ ys, (itS 13 (ltY WD ot RW) k).2.1 = ys := ⟨_, rfl⟩
            obtain ⟨sq, hsq⟩ : ∃ sq, (itS 13 (ltY WD ot RW) k).2.2 = sq := ⟨_, rfl⟩
            rw [show itS 13 (ltY WD ot RW) k = (T, ys, sq) by rw [← hT, ← hys, ← hsq]] at HNX
            rw [hT, hys, hsq] at HI hK
            have HE := HNX
            have HQ := Lib.hid (show ad T.rc 0 = T.rc ∧ 0 ≤ sq ∧ sq < 1000000 by have := HI.out; exact ⟨this.1, by omega, by omega⟩)
            obtain ⟨dn, hdn⟩ : ∃ dn, decide (k + 1 = 5) = dn := ⟨_, rfl⟩
            have HDN := Lib.hid hdn
            have HD := Lib.hid (show (stp 13 T ys).d = dn ∧ (k + 1 = 5 → (stp 13 T ys).k = rK RW ∧ (stp 13 T ys).v = rV RW) from ⟨by rw [← hdn]; exact HI.out.2.2.1, HI.out.2.2.2⟩)
            clear hdn
            obtain ⟨wq, hwq⟩ : ∃ wq, wq = wr := ⟨_, rfl⟩
            rw [← hwq] at hK hrb ⊢
            have HK := Lib.hid hK
            have HG := Lib.hid (And.intro hrb HG0.out.2)
            clear hT hys hsq hK hlt hk HI HNX hwq hrb hfin
            have C := HK.out.stepKL T HQ.out.1 HQ.out.2.1 HQ.out.2.2
            obtain ⟨S, hS⟩ : ∃ S, stp 13 T ys = S := ⟨_, rfl⟩
            have HNXT := Lib.hid (show (itS 13 (ltY WD ot RW) (k + 1)) = (S.t, S.zs, sq + S.c) by rw [HE.out]; unfold one; rw [hS])
            rw [hS] at HD
            rw [hS, HD.out.1, show thN T = .agg #[.int .i64 T.ti, .int .i64 T.pc, .int .i64 T.rc, .int .i64 T.sq, .int .i64 T.wo, .int .i64 T.lk, .int .i64 T.cu, .int .i64 T.pv, .int .i64 T.nt, .int .i64 T.mx, .int .i64 T.ps, .int .i64 T.rn, .slice none 0 0] from rfl, show thN S.t = .agg #[.int .i64 S.t.ti, .int .i64 S.t.pc, .int .i64 S.t.rc, .int .i64 S.t.sq, .int .i64 S.t.wo, .int .i64 S.t.lk, .int .i64 S.t.cu, .int .i64 S.t.pv, .int .i64 S.t.nt, .int .i64 S.t.mx, .int .i64 S.t.ps, .int .i64 S.t.rn, .slice none 0 0] from rfl] at C
            have HC := Lib.hid C
            have x := HK.out.x
            have c0 := x.c0
            have c1 := x.c1
            have c2 := x.c2
            have c3 := x.c3
            have c4 := x.c4
            have c5 := x.c5
            have c6 := x.c6
            have c7 := x.c7
            have c8 := x.c8
            have c9 := x.c9
            have c10 := x.c10
            have c11 := x.c11
            have c12 := x.c12
            clear C hS x HE HQ
            go_wp2_with fail
            with_reducible refine HC.out.mono ?_
            clear HC c0 c1 c2 c3 c4 c5 c6 c7 c8 c9 c10 c11 c12
            rintro e w5 ⟨rfl, r5, k5⟩
            go_upto_region 19 with (fail)
            generalize hW6 : (w5.alloc (.cells #[.int .i64 S.t.ti, .int .i64 S.t.pc, .int .i64 S.t.rc, .int .i64 S.t.sq, .int .i64 S.t.wo, .int .i64 S.t.lk, .int .i64 S.t.cu, .int .i64 S.t.pv, .int .i64 S.t.nt, .int .i64 S.t.mx, .int .i64 S.t.ps, .int .i64 S.t.rn, .slice none 0 0] 25)).alloc (.cells #[.int .u8 S.k, .int .i32 S.v] 49) = w6
            have hb6 : Below w5.heap.size w5 w6 := by subst hW6; exact ((Below.refl _ _).alloc (Nat.le_refl _) _).alloc (by simp) _
            have HX6 := Lib.hid (show TX w6 w5.heap.size S.t (.slice none 0 0) by subst hW6; exact (TX.new w5 S.t _).alloc _)
            have HZ6 := Lib.hid (show RB w6 (w5.heap.size + 1) S.k S.v by
              subst hW6
              have := RB.new (w5.alloc (.cells #[.int .i64 S.t.ti, .int .i64 S.t.pc, .int .i64 S.t.rc, .int .i64 S.t.sq, .int .i64 S.t.wo, .int .i64 S.t.lk, .int .i64 S.t.cu, .int .i64 S.t.pv, .int .i64 S.t.nt, .int .i64 S.t.mx, .int .i64 S.t.ps, .int .i64 S.t.rn, .slice none 0 0] 25)) S.k S.v
              simpa using this)
            have HR6 := Lib.hid (r5.fresh hb6)
            have HG6 := Lib.hid ((HG.out.1.off' k5).keep hb6)
            have hgt : ¬ gt = w5.heap.size := by have := r5.x.lt; omega
            have hgt2 : ¬ gt = w5.heap.size + 1 := by have := r5.x.lt; omega
            have hgr : ¬ gr = w5.heap.size := by have := (HG.out.1.off' k5).lt; omega
            have hgr2 : ¬ gr = w5.heap.size + 1 := by have := (HG.out.1.off' k5).lt; omega
            have hne : ¬ gr = gt := HG.out.2.1
            have P2 := HR6.out.put2 HG6.out HG.out.2.1 HG.out.2.2 S.t S.k S.v
            have HNEXT := Lib.hid (show RR W p gt 13 (itS 13 (ltY WD ot RW) (k + 1)).1 (itS 13 (ltY WD ot RW) (k + 1)).2.1 (itS 13 (ltY WD ot RW) (k + 1)).2.2 (((setT w6 gt S.t (.slice none 0 0)).setCell ⟨gr, 0, none⟩ (.int .u8 S.k)).setCell ⟨gr, 1, none⟩ (.int .i32 S.v)) by rw [HNXT.out]; exact P2.1)
            have HRES := Lib.hid P2.2
            clear hW6 hb6 r5 k5 HNXT HK P2
            have x := HX6.out
            have y := HR6.out.x
            have yf := y.f
            have z0 := HZ6.out.c0
            have z1 := HZ6.out.c1
            have g0 := HG6.out.c0
            have g1 := HG6.out.c1
            have gf := HG6.out.f
            have c0 := x.c0
            have c1 := x.c1
            have c2 := x.c2
            have c3 := x.c3
            have c4 := x.c4
            have c5 := x.c5
            have c6 := x.c6
            have c7 := x.c7
            have c8 := x.c8
            have c9 := x.c9
            have c10 := x.c10
            have c11 := x.c11
            have c12 := x.c12
            have r0 := y.c0
            have r1 := y.c1
            have r2 := y.c2
            have r3 := y.c3
            have r4 := y.c4
            have r5 := y.c5
            have r6 := y.c6
            have r7 := y.c7
            have r8 := y.c8
            have r9 := y.c9
            have r10 := y.c10
            have r11 := y.c11
            have r12 := y.c12
            clear x y HX6 HR6 HZ6 HG6
            go_wp2
            go_roundw
            case rel => exact ⟨k + 1, S.k, S.v, HLT.out, by go_num, by rw [HDN.out], HNEXT.out, HRES.out, fun h => by have h1 := HD.out.2 h; have h2 := rK_wd HRS.out; rw [HRW.out] at h2; exact ⟨h1.1.trans h2.1, h1.2.trans h2.2⟩⟩
            case measure => simp [intOf]; omega
          · obtain rfl : k = 5 := by omega
            rw [ltYE WD ot RW HWP.out] at hK
            have HK := Lib.hid (show RR W p gt 13 ⟨0, 0, 3, 1, 0, RW, 0, 0, 0, 0, 0, 0⟩ [0, ot, 0, -1, 0, 0, 0, RW] 12 wr from hK)
            have HGR := Lib.hid hrb
            obtain ⟨rfl, rfl⟩ := hfin rfl
            clear hK hlt hk hrb hfin
            rw [show ((5 : Nat) : Int) = 5 from rfl]
            rw [show decide ((5 : Nat) = 5) = true from rfl]
            have HC := Lib.hid (show Calls Try.prog 26 #[.pointer (some ⟨p, 0, none⟩), .int .i64 1] wr fun e w' => e = .returned (.tuple #[.int .i64 (ot), .int .u16 0]) ∧ RR W p gt 13 ⟨0, 0, 3, 1, 0, RW, 0, 0, 0, 0, 0, 0⟩ [0, ot, 0, -1, 0, 0, 0, RW] 13 w' ∧ Kept wr w' from (loadKk HK.out 1 (by decide) (by simp) (by decide) (by decide)))
            clear HK
            go_wp2_with fail
            with_reducible refine HC.out.mono ?_
            clear HC
            rintro e w5 ⟨rfl, r5, k5⟩
            have HR5 := Lib.hid r5
            have HG5 := Lib.hid (HGR.out.off' k5)
            have HC := Lib.hid (show Calls Try.prog 27 #[.pointer (some ⟨p, 0, none⟩), .int .i64 3] w5 fun e w' => e = .returned (.tuple #[.agg #[.int .i64 (-1), .int .i64 (0), .int .i64 0, .int .i64 (0), .int .i64 (RW)], .bool true]) ∧ Below w5.heap.size w5 w' from seeIn r5.m 0 (show 0 < mn 8 by decide))
            clear r5 k5 HGR
            go_wp2_with fail
            with_reducible refine HC.out.mono ?_
            clear HC
            rintro e w6 ⟨rfl, b6⟩
            go_upto_region 24 with (fail)
            generalize hW7 : w6.alloc (.cells #[.int .i64 (-1), .int .i64 (0), .int .i64 0, .int .i64 (0), .int .i64 (RW)] 61) = w7
            have HB7 := Lib.hid (show B5 w7 w6.heap.size 61 (-1) (0) 0 (0) (RW) by subst hW7; exact B5.new _ _ _ _ _ _ _)
            have hb7 : Below w5.heap.size w5 w7 := by subst hW7; exact b6.alloc b6.size _
            have HR7 := Lib.hid (HR5.out.fresh hb7)
            have HG7 := Lib.hid (HG5.out.keep hb7)
            clear hW7 b6 HR5 HG5 hb7
            go_wp2_with fail
            refine (known w7).mono ?_
            rintro e w8 ⟨rfl, b8⟩
            have r8 := HR7.out.fresh b8
            have HB8 := Lib.hid (HB7.out.keep b8)
            have a1 : _ = some (Value.int .i64 0) := r8.x.c1
            have z0 := HB8.out.c0
            have z1 := HB8.out.c1
            have z3 := HB8.out.c3
            have g0 := (HG7.out.keep b8).c0
            have g1 := (HG7.out.keep b8).c1
            have a9 := (r8.b.cell (p := ⟨w.heap.size + 1, 0, none⟩) HRB.out.lt).trans HRB.out.c0
            have a10 := (r8.b.cell (p := ⟨w.heap.size + 1, 1, none⟩) HRB.out.lt).trans HRB.out.c1
            have HEND := Lib.hid (HBW.out.trans (r8.b.mono HBW.out.size))
            clear r8 b8 HR7 HB7 HG7
            go_wp2
            go_ret
            exact ⟨rfl, HEND.out⟩

end Go.Proofs.Ythefdglocnalhaa.M2
