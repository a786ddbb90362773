/-
  The walk of OwnerLock: for every two operations, choice and number it answers true and leaves all old memory as it was.
-/
import Derived.Test.YthefdglocnalhaaLckPl15m
import Derived.Deep.Cut
namespace Go.Proofs.Ythefdglocnalhaa.M2
open Go.RowKit

def thI (i : Int) : Th := ⟨i, 0, 0, 0, 0, 0, 0, 0, 0, 0, 0, 0⟩
theorem RR.swapB {w wr : World} {p g k : Nat} {size : Int} {T U : Th} {zs : List Int} {st : Int} (h : RR w p g size T zs st wr) (x : TX wr k U (.slice none 0 0)) (hk : w.heap.size ≤ k) : RR w p k size U zs st wr := ⟨h.m, x, h.b, hk⟩

theorem loadKl {w a : World} {p gt : Nat} {size : Int} {T : Th} {zs : List Int} {st : Int} (h : RR w p gt size T zs st a) (i : Int) (h0 : 0 ≤ i) (h1 : i < zs.length) (k0 : 0 ≤ st) (k1 : st < 1000000) :
    Calls Try.prog 26 #[.pointer (some ⟨p, 0, none⟩), .int .i64 i] a fun e w' => e = .returned (.tuple #[.int .i64 (zs.getD i.toNat 0), .int .u16 0]) ∧ RR w p gt size T zs (st + 1) w' ∧ Kept a w' := by
  obtain ⟨v, m⟩ := h.m
  exact (loadIn m i h0 h1 k0 k1).mono fun e w' ⟨he, d⟩ => ⟨he, h.to (d.one m).1 (d.one m).2 (d.kept m), d.kept m⟩

set_option maxRecDepth 100000 in
set_option maxHeartbeats 16000000 in
theorem lockWalk (kd vl kd2 vl2 : Int) (first : Bool) (i : Int) (ho : OpOk (kd, vl)) (ho2 : OpOk (kd2, vl2)) (i0 : 0 ≤ i) (i1 : i ≤ 255) (w : World) :
    Calls Try.prog 8 #[.agg #[.int .u8 kd, .int .i32 vl], .agg #[.int .u8 kd2, .int .i32 vl2], .bool first, .int .u8 i] w fun e w' => e = .returned (.bool true) ∧ Below w.heap.size w w' := by
  have HT0 := Lib.hid (show ∀ i, thN (thI i) = .agg #[.int .i64 i, .int .i64 0, .int .i64 0, .int .i64 0, .int .i64 0, .int .i64 0, .int .i64 0, .int .i64 0, .int .i64 0, .int .i64 0, .int .i64 0, .int .i64 0, .slice none 0 0] from fun _ => rfl)
  have HO := Lib.hid ho
  have HO2 := Lib.hid ho2
  have HI0 := Lib.hid (And.intro i0 i1)
  clear ho ho2
  go_enter Try.func8, Try.ntmps8
  go_wp2_with fail
  generalize hW : (w.alloc (.cells #[.int .u8 kd, .int .i32 vl] 27)).alloc (.cells #[.int .u8 kd2, .int .i32 vl2] 27) = W
  have HOB := Lib.hid (show W.heap[w.heap.size]? = some (.cells #[.int .u8 kd, .int .i32 vl] 27 (0, 0)) ∧ W.heap[w.heap.size + 1]? = some (.cells #[.int .u8 kd2, .int .i32 vl2] 27 (0, 0)) by
    subst hW
    refine ⟨(Below.heap_alloc _ _ _ (by simp)).trans (heap_alloc_new w _), ?_⟩
    have := heap_alloc_new (w.alloc (.cells #[.int .u8 kd, .int .i32 vl] 27)) (.cells #[.int .u8 kd2, .int .i32 vl2] 27)
    simpa using this)
  have HBW := Lib.hid (show Below w.heap.size w W by subst hW; exact ((Below.refl _ _).alloc (Nat.le_refl _) _).alloc (by simp) _)
  clear hW
  refine (openIn 2 (by omega) (by omega) W).mono ?_
  rintro e v1 ⟨rfl, m1, b1⟩
  have HM1 := Lib.hid (show Mem1 v1 W.heap.size W.heap.size 13 [0, 0, 0] 1 from m1)
  have HB1 := Lib.hid b1
  have hob := (b1.block _ (lt_of_block HOB.out.1)).trans HOB.out.1
  have o0 : v1.cell? ⟨w.heap.size, 0, none⟩ = some (.int .u8 kd) := by simp [World.cell?, hob]
  have o1 : v1.cell? ⟨w.heap.size, 1, none⟩ = some (.int .i32 vl) := by simp [World.cell?, hob]
  clear m1 b1 hob
  obtain ⟨WA, hWA⟩ : ∃ WA, wd kd vl = WA := ⟨_, rfl⟩
  obtain ⟨WB, hWB⟩ : ∃ WB, wd kd2 vl2 = WB := ⟨_, rfl⟩
  have HWB := Lib.hid hWB
  have C := beginN v1 (thI i) kd vl HO.out
  rw [HT0.out, hWA, show bgT (thI i) WA = ⟨i, 1, 0, 1, WA, 0, 0, 0, 0, 0, 0, 0⟩ from begunI i WA, show thN (⟨i, 1, 0, 1, WA, 0, 0, 0, 0, 0, 0, 0⟩ : Th) = .agg #[.int .i64 i, .int .i64 1, .int .i64 0, .int .i64 1, .int .i64 WA, .int .i64 0, .int .i64 0, .int .i64 0, .int .i64 0, .int .i64 0, .int .i64 0, .int .i64 0, .slice none 0 0] from rfl, show ((thI i).pc == 0) = true from rfl] at C
  have HC := Lib.hid C
  clear C hWA hWB
  go_wp2_with fail
  with_reducible refine HC.out.mono ?_
  clear HC o0 o1
  rintro e v2 ⟨rfl, b2⟩
  go_upto_region 3 with (fail)
  generalize hW3 : v2.alloc (.cells #[.int .i64 i, .int .i64 1, .int .i64 0, .int .i64 1, .int .i64 WA, .int .i64 0, .int .i64 0, .int .i64 0, .int .i64 0, .int .i64 0, .int .i64 0, .int .i64 0, .slice none 0 0] 25) = v3
  have hb3 : Below v1.heap.size v1 v3 := by subst hW3; exact b2.alloc b2.size _
  have HX3 := Lib.hid (show TX v3 v2.heap.size ⟨i, 1, 0, 1, WA, 0, 0, 0, 0, 0, 0, 0⟩ (.slice none 0 0) by subst hW3; exact TX.new v2 ⟨i, 1, 0, 1, WA, 0, 0, 0, 0, 0, 0, 0⟩ _)
  have HM3 := Lib.hid (HM1.out.keep hb3)
  have HB3 := Lib.hid (HB1.out.trans (hb3.mono HB1.out.size))
  have HGA := Lib.hid (show W.heap.size ≤ v2.heap.size from Nat.le_trans HB1.out.size b2.size)
  clear hW3 hb3 b2 HM1 HB1
  generalize v2.heap.size = ga at *
  have hob := (HB3.out.block _ (lt_of_block HOB.out.2)).trans HOB.out.2
  have o0 : v3.cell? ⟨w.heap.size + 1, 0, none⟩ = some (.int .u8 kd2) := by simp [World.cell?, hob]
  have o1 : v3.cell? ⟨w.heap.size + 1, 1, none⟩ = some (.int .i32 vl2) := by simp [World.cell?, hob]
  have C := beginN v3 (thI (i + 1)) kd2 vl2 HO2.out
  rw [HT0.out, HWB.out, show bgT (thI (i + 1)) WB = ⟨i + 1, 1, 0, 1, WB, 0, 0, 0, 0, 0, 0, 0⟩ from begunI (i + 1) WB, show thN (⟨i + 1, 1, 0, 1, WB, 0, 0, 0, 0, 0, 0, 0⟩ : Th) = .agg #[.int .i64 (i + 1), .int .i64 1, .int .i64 0, .int .i64 1, .int .i64 WB, .int .i64 0, .int .i64 0, .int .i64 0, .int .i64 0, .int .i64 0, .int .i64 0, .int .i64 0, .slice none 0 0] from rfl, show ((thI (i + 1)).pc == 0) = true from rfl] at C
  have HC := Lib.hid C
  clear C hob
  go_wp2_with fail
  with_reducible refine HC.out.mono ?_
  clear HC o0 o1
  rintro e v4 ⟨rfl, b4⟩
  go_upto_region 4 with (fail)
  obtain ⟨j, hj⟩ : ∃ j, i + 1 = j := ⟨_, rfl⟩
  rw [hj]
  have HJ := Lib.hid hj
  generalize hW5 : v4.alloc (.cells #[.int .i64 j, .int .i64 1, .int .i64 0, .int .i64 1, .int .i64 WB, .int .i64 0, .int .i64 0, .int .i64 0, .int .i64 0, .int .i64 0, .int .i64 0, .int .i64 0, .slice none 0 0] 25) = v5
  have hb5 : Below v3.heap.size v3 v5 := by subst hW5; exact b4.alloc b4.size _
  have HX5 := Lib.hid (show TX v5 v4.heap.size ⟨j, 1, 0, 1, WB, 0, 0, 0, 0, 0, 0, 0⟩ (.slice none 0 0) by subst hW5; exact TX.new v4 ⟨j, 1, 0, 1, WB, 0, 0, 0, 0, 0, 0, 0⟩ _)
  have HR := Lib.hid (show RR W W.heap.size ga 13 (itS 13 (lkA i WA) 0).1 (itS 13 (lkA i WA) 0).2.1 (itS 13 (lkA i WA) 0).2.2 v5 ∧ TX v5 v4.heap.size ⟨j, 1, 0, 1, WB, 0, 0, 0, 0, 0, 0, 0⟩ (.slice none 0 0) from ⟨⟨HM3.out.keep hb5, HX3.out.keep hb5, HB3.out.trans (hb5.mono HB3.out.size), HGA.out⟩, HX5.out⟩)
  have HNE := Lib.hid (show v4.heap.size ≠ ga by have := HX3.out.lt; have := b4.size; omega)
  have HGB := Lib.hid (show W.heap.size ≤ v4.heap.size from Nat.le_trans HB3.out.size b4.size)
  clear hW5 hb5 b4 HM3 HX3 HX5 HB3 hj
  generalize v4.heap.size = gb at *
  generalize W.heap.size = p at HR
  go_upto_region 6 with (fail)
  go_wp2_with fail
  go_loopw [14] (fun kv wr => ∃ k : Nat, k ≤ 11 ∧ kv = .int .i64 (k : Int) ∧ RR W p ga 13 (itS 13 (lkA i WA) k).1 (itS 13 (lkA i WA) k).2.1 (itS 13 (lkA i WA) k).2.2 wr ∧ TX wr gb ⟨j, 1, 0, 1, WB, 0, 0, 0, 0, 0, 0, 0⟩ (.slice none 0 0)) (fun kv _ => 11 - (intOf kv).toNat)
  case atStart => exact ⟨0, by omega, rfl, HR.out.1, HR.out.2⟩
  case round =>
    obtain ⟨k, hk, rfl, hK, hG⟩ := hrel
    clear HR
    by_cases hlt : k < 11
    · have HI := Lib.hid (lkAI i WA k hlt)
      have HLT := Lib.hid hlt
      have i1 : (k : Int) < 11 := by omega
      have HNX := Lib.hid (show itS 13 (lkA i WA) (k + 1) = one 13 (itS 13 (lkA i WA) k) from rfl)
      obtain ⟨T, hT⟩ : ∃ T, (itS 13 (lkA i WA) k).1 = T := ⟨_, rfl⟩
      obtain ⟨ys, hys⟩ : ∃ ys, (itS 13 (lkA i WA) k).2.1 = ys := ⟨_, rfl⟩
      obtain ⟨sq, hsq⟩ : ∃ sq, (itS 13 (lkA i WA) k).2.2 = sq := ⟨_, rfl⟩
      rw [show itS 13 (lkA i WA) k = (T, ys, sq) by rw [← hT, ← hys, ← hsq]] at HNX
      rw [hT, hsq] at HI
      rw [hT, hys, hsq] at hK
      obtain ⟨TO, hTO⟩ : ∃ TO : Th, (⟨j, 1, 0, 1, WB, 0, 0, 0, 0, 0, 0, 0⟩ : Th) = TO := ⟨_, rfl⟩
      rw [hTO] at hG
      have HTO := Lib.hid hTO
      have HE := HNX
      have HQ := Lib.hid (show ad T.rc 0 = T.rc ∧ 0 ≤ sq ∧ sq < 1000000 by have := HI.out; exact ⟨this.1, by omega, by omega⟩)
      obtain ⟨wq, hwq⟩ : ∃ wq, wq = wr := ⟨_, rfl⟩
      rw [← hwq] at hK hG ⊢
      have HK := Lib.hid hK
      have HG := Lib.hid (And.intro hG HNE.out)
      clear hT hys hsq hK hlt hk HI HNX hwq hG hTO
      have C := HK.out.stepKL T HQ.out.1 HQ.out.2.1 HQ.out.2.2
      obtain ⟨S, hS⟩ : ∃ S, stp 13 T ys = S := ⟨_, rfl⟩
      have HNXT := Lib.hid (show itS 13 (lkA i WA) (k + 1) = (S.t, S.zs, sq + S.c) by rw [HE.out]; unfold one; rw [hS])
      rw [hS, show thN T = .agg #[.int .i64 T.ti, .int .i64 T.pc, .int .i64 T.rc, .int .i64 T.sq, .int .i64 T.wo, .int .i64 T.lk, .int .i64 T.cu, .int .i64 T.pv, .int .i64 T.nt, .int .i64 T.mx, .int .i64 T.ps, .int .i64 T.rn, .slice none 0 0] from rfl, show thN S.t = .agg #[.int .i64 S.t.ti, .int .i64 S.t.pc, .int .i64 S.t.rc, .int .i64 S.t.sq, .int .i64 S.t.wo, .int .i64 S.t.lk, .int .i64 S.t.cu, .int .i64 S.t.pv, .int .i64 S.t.nt, .int .i64 S.t.mx, .int .i64 S.t.ps, .int .i64 S.t.rn, .slice none 0 0] from rfl] at C
      have HC := Lib.hid C
      have x := HK.out.x
      have c0 := x.c0
      have c1 := x.c1
      have c2 := x.c2
      have c3 := x.c3
      have c4 := x.c4
      have c5 := x.c5
      have c6 := x.c6
      have c7 := x.c7
      have c8 := x.c8
      have c9 := x.c9
      have c10 := x.c10
      have c11 := x.c11
      have c12 := x.c12
      clear C hS x HQ
      go_wp2_with fail
      with_reducible refine HC.out.mono ?_
      clear HC c0 c1 c2 c3 c4 c5 c6 c7 c8 c9 c10 c11 c12
      rintro e w5 ⟨rfl, r5, k5⟩
      go_upto_region 10 with (fail)
      generalize hW6 : (w5.alloc (.cells #[.int .i64 S.t.ti, .int .i64 S.t.pc, .int .i64 S.t.rc, .int .i64 S.t.sq, .int .i64 S.t.wo, .int .i64 S.t.lk, .int .i64 S.t.cu, .int .i64 S.t.pv, .int .i64 S.t.nt, .int .i64 S.t.mx, .int .i64 S.t.ps, .int .i64 S.t.rn, .slice none 0 0] 25)).alloc (.cells #[.int .u8 S.k, .int .i32 S.v] 49) = w6
      have hb6 : Below w5.heap.size w5 w6 := by subst hW6; exact ((Below.refl _ _).alloc (Nat.le_refl _) _).alloc (by simp) _
      have HX6 := Lib.hid (show TX w6 w5.heap.size S.t (.slice none 0 0) by subst hW6; exact (TX.new w5 S.t _).alloc _)
      have HR6 := Lib.hid (r5.fresh hb6)
      have HG6 := Lib.hid ((HG.out.1.off k5).keep hb6)
      have hgt : ¬ ga = w5.heap.size := by have := r5.x.lt; omega
      have HNEXT := Lib.hid (show RR W p ga 13 S.t S.zs (sq + S.c) (setT w6 ga S.t (.slice none 0 0)) from HR6.out.put S.t)
      have HNG := Lib.hid (show TX (setT w6 ga S.t (.slice none 0 0)) gb TO (.slice none 0 0) from (setT_other w6 HG.out.2 _ _).trans HG6.out)
      clear hW6 hb6 r5 k5 HK HG6
      have x := HX6.out
      have y := HR6.out.x
      have yf := y.f
      have c0 := x.c0
      have c1 := x.c1
      have c2 := x.c2
      have c3 := x.c3
      have c4 := x.c4
      have c5 := x.c5
      have c6 := x.c6
      have c7 := x.c7
      have c8 := x.c8
      have c9 := x.c9
      have c10 := x.c10
      have c11 := x.c11
      have c12 := x.c12
      have r0 := y.c0
      have r1 := y.c1
      have r2 := y.c2
      have r3 := y.c3
      have r4 := y.c4
      have r5 := y.c5
      have r6 := y.c6
      have r7 := y.c7
      have r8 := y.c8
      have r9 := y.c9
      have r10 := y.c10
      have r11 := y.c11
      have r12 := y.c12
      clear x y HX6 HR6
      go_wp2
      go_roundw
      case rel => exact ⟨k + 1, HLT.out, by go_num, by rw [HNXT.out]; exact HNEXT.out, by rw [HTO.out]; exact HNG.out⟩
      case measure => simp [intOf]; omega
    · obtain rfl : k = 11 := by omega
      rw [lkAE] at hK
      have HR := Lib.hid (show RR W p gb 13 (itS 13 (lkB j WA WB) 0).1 (itS 13 (lkB j WA WB) 0).2.1 (itS 13 (lkB j WA WB) 0).2.2 wr ∧ TX wr ga ⟨i, 13, 3, 1, WA, 0, 0, 0, 0, 0, 0, 0⟩ (.slice none 0 0) from ⟨hK.swapB hG HGB.out, hK.x⟩)
      have HNE := Lib.hid (show ga ≠ gb from fun e => HNE.out e.symm)
      clear hK hG hlt hk
      go_upto_region 12 with (fail)
      try rw [show ((11 : Nat) : Int) = 11 from rfl]
      go_loopw [18] (fun kv wr => ∃ k : Nat, k ≤ 11 ∧ kv = .int .i64 (k : Int) ∧ RR W p gb 13 (itS 13 (lkB j WA WB) k).1 (itS 13 (lkB j WA WB) k).2.1 (itS 13 (lkB j WA WB) k).2.2 wr ∧ TX wr ga ⟨i, 13, 3, 1, WA, 0, 0, 0, 0, 0, 0, 0⟩ (.slice none 0 0)) (fun kv _ => 11 - (intOf kv).toNat)
      case atStart => exact ⟨0, by omega, rfl, HR.out.1, HR.out.2⟩
      case round =>
        obtain ⟨k, hk, rfl, hK, hG⟩ := hrel
        clear HR
        by_cases hlt : k < 11
        · have HI := Lib.hid (lkBI j WA WB k hlt)
          have HLT := Lib.hid hlt
          have i1 : (k : Int) < 11 := by omega
          have HNX := Lib.hid (show itS 13 (lkB j WA WB) (k + 1) = one 13 (itS 13 (lkB j WA WB) k) from rfl)
          obtain ⟨T, hT⟩ : ∃ T, (itS 13 (lkB j WA WB) k).1 = T := ⟨_, rfl⟩
          obtain ⟨ys, hys⟩ : ∃ ys, (itS 13 (lkB j WA WB) k).2.1 = ys := ⟨_, rfl⟩
          obtain ⟨sq, hsq⟩ : ∃ sq, (itS 13 (lkB j WA WB) k).2.2 = sq := ⟨_, rfl⟩
          rw [show itS 13 (lkB j WA WB) k = (T, ys, sq) by rw [← hT, ← hys, ← hsq]] at HNX
          rw [hT, hsq] at HI
          rw [hT, hys, hsq] at hK
          obtain ⟨TO, hTO⟩ : ∃ TO : Th, (⟨i, 13, 3, 1, WA, 0, 0, 0, 0, 0, 0, 0⟩ : Th) = TO := ⟨_, rfl⟩
          rw [hTO] at hG
          have HTO := Lib.hid hTO
          have HE := HNX
          have HQ := Lib.hid (show ad T.rc 0 = T.rc ∧ 0 ≤ sq ∧ sq < 1000000 by have := HI.out; exact ⟨this.1, by omega, by omega⟩)
          obtain ⟨wq, hwq⟩ : ∃ wq, wq = wr := ⟨_, rfl⟩
          rw [← hwq] at hK hG ⊢
          have HK := Lib.hid hK
          have HG := Lib.hid (And.intro hG HNE.out)
          clear hT hys hsq hK hlt hk HI HNX hwq hG hTO
          have C := HK.out.stepKL T HQ.out.1 HQ.out.2.1 HQ.out.2.2
          obtain ⟨S, hS⟩ : ∃ S, stp 13 T ys = S := ⟨_, rfl⟩
          have HNXT := Lib.hid (show itS 13 (lkB j WA WB) (k + 1) = (S.t, S.zs, sq + S.c) by rw [HE.out]; unfold one; rw [hS])
          rw [hS, show thN T = .agg #[.int .i64 T.ti, .int .i64 T.pc, .int .i64 T.rc, .int .i64 T.sq, .int .i64 T.wo, .int .i64 T.lk, .int .i64 T.cu, .int .i64 T.pv, .int .i64 T.nt, .int .i64 T.mx, .int .i64 T.ps, .int .i64 T.rn, .slice none 0 0] from rfl, show thN S.t = .agg #[.int .i64 S.t.ti, .int .i64 S.t.pc, .int .i64 S.t.rc, .int .i64 S.t.sq, .int .i64 S.t.wo, .int .i64 S.t.lk, .int .i64 S.t.cu, .int .i64 S.t.pv, .int .i64 S.t.nt, .int .i64 S.t.mx, .int .i64 S.t.ps, .int .i64 S.t.rn, .slice none 0 0] from rfl] at C
          have HC := Lib.hid C
          have x := HK.out.x
          have c0 := x.c0
          have c1 := x.c1
          have c2 := x.c2
          have c3 := x.c3
          have c4 := x.c4
          have c5 := x.c5
          have c6 := x.c6
          have c7 := x.c7
          have c8 := x.c8
          have c9 := x.c9
          have c10 := x.c10
          have c11 := x.c11
          have c12 := x.c12
          clear C hS x HQ
          go_wp2_with fail
          with_reducible refine HC.out.mono ?_
          clear HC c0 c1 c2 c3 c4 c5 c6 c7 c8 c9 c10 c11 c12
          rintro e w5 ⟨rfl, r5, k5⟩
          go_upto_region 15 with (fail)
          generalize hW6 : (w5.alloc (.cells #[.int .i64 S.t.ti, .int .i64 S.t.pc, .int .i64 S.t.rc, .int .i64 S.t.sq, .int .i64 S.t.wo, .int .i64 S.t.lk, .int .i64 S.t.cu, .int .i64 S.t.pv, .int .i64 S.t.nt, .int .i64 S.t.mx, .int .i64 S.t.ps, .int .i64 S.t.rn, .slice none 0 0] 25)).alloc (.cells #[.int .u8 S.k, .int .i32 S.v] 49) = w6
          have hb6 : Below w5.heap.size w5 w6 := by subst hW6; exact ((Below.refl _ _).alloc (Nat.le_refl _) _).alloc (by simp) _
          have HX6 := Lib.hid (show TX w6 w5.heap.size S.t (.slice none 0 0) by subst hW6; exact (TX.new w5 S.t _).alloc _)
          have HR6 := Lib.hid (r5.fresh hb6)
          have HG6 := Lib.hid ((HG.out.1.off k5).keep hb6)
          have hgt : ¬ gb = w5.heap.size := by have := r5.x.lt; omega
          have HNEXT := Lib.hid (show RR W p gb 13 S.t S.zs (sq + S.c) (setT w6 gb S.t (.slice none 0 0)) from HR6.out.put S.t)
          have HNG := Lib.hid (show TX (setT w6 gb S.t (.slice none 0 0)) ga TO (.slice none 0 0) from (setT_other w6 HG.out.2 _ _).trans HG6.out)
          clear hW6 hb6 r5 k5 HK HG6
          have x := HX6.out
          have y := HR6.out.x
          have yf := y.f
          have c0 := x.c0
          have c1 := x.c1
          have c2 := x.c2
          have c3 := x.c3
          have c4 := x.c4
          have c5 := x.c5
          have c6 := x.c6
          have c7 := x.c7
          have c8 := x.c8
          have c9 := x.c9
          have c10 := x.c10
          have c11 := x.c11
          have c12 := x.c12
          have r0 := y.c0
          have r1 := y.c1
          have r2 := y.c2
          have r3 := y.c3
          have r4 := y.c4
          have r5 := y.c5
          have r6 := y.c6
          have r7 := y.c7
          have r8 := y.c8
          have r9 := y.c9
          have r10 := y.c10
          have r11 := y.c11
          have r12 := y.c12
          clear x y HX6 HR6
          go_wp2
          go_roundw
          case rel => exact ⟨k + 1, HLT.out, by go_num, by rw [HNXT.out]; exact HNEXT.out, by rw [HTO.out]; exact HNG.out⟩
          case measure => simp [intOf]; omega
        · obtain rfl : k = 11 := by omega
          rw [lkBE] at hK
          have HK := Lib.hid hK
          have HG := Lib.hid hG
          clear hK hG hlt hk
          have a1 : _ = some (Value.int .i64 13) := HK.out.x.c1
          have a2 : _ = some (Value.int .i64 13) := HG.out.c1
          go_upto_region 18 with (fail)
          try rw [show ((11 : Nat) : Int) = 11 from rfl]
          clear a1 a2
          cases first with
          | true =>
            have HK0 := Lib.hid (show RR W p ga 13 ⟨i, 13, 3, 1, WA, 0, 0, 0, 0, 0, 0, 0⟩ (lkZ 0 WA WB) 23 wr from HK.out.swapB HG.out HGA.out)
            have HG := Lib.hid (show TX wr gb ⟨j, 13, 8, 1, WB, 0, 0, 0, 0, 0, 0, 0⟩ (.slice none 0 0) ∧ gb ≠ ga from ⟨HK.out.x, fun e => HNE.out e.symm⟩)
            have HK := HK0
            clear HK0
            have hji : ad i 1 = j := by rw [← HJ.out]; exact IntWalk.wrap64_in (i + 1) (by have := HI0.out; omega)
            have C := HK.out.stepKL (⟨i, 13, 3, 1, WA, 0, 0, 0, 0, 0, 0, 0⟩ : Th) ad30 (by decide) (by decide)
            rw [tkY i WA WB WA 3 j hji, show thN (⟨i, 13, 3, 1, WA, 0, 0, 0, 0, 0, 0, 0⟩ : Th) = .agg #[.int .i64 i, .int .i64 13, .int .i64 3, .int .i64 1, .int .i64 WA, .int .i64 0, .int .i64 0, .int .i64 0, .int .i64 0, .int .i64 0, .int .i64 0, .int .i64 0, .slice none 0 0] from rfl, show thN (⟨i, 20, 3, 1, WA, 0, 0, 0, 0, 0, 0, 0⟩ : Th) = .agg #[.int .i64 i, .int .i64 20, .int .i64 3, .int .i64 1, .int .i64 WA, .int .i64 0, .int .i64 0, .int .i64 0, .int .i64 0, .int .i64 0, .int .i64 0, .int .i64 0, .slice none 0 0] from rfl] at C
            have HC := Lib.hid C
            have x := HK.out.x
            have c0 : _ = some (Value.int .i64 i) := x.c0
            have c1 : _ = some (Value.int .i64 13) := x.c1
            have c2 : _ = some (Value.int .i64 3) := x.c2
            have c3 : _ = some (Value.int .i64 1) := x.c3
            have c4 : _ = some (Value.int .i64 WA) := x.c4
            have c5 : _ = some (Value.int .i64 0) := x.c5
            have c6 : _ = some (Value.int .i64 0) := x.c6
            have c7 : _ = some (Value.int .i64 0) := x.c7
            have c8 : _ = some (Value.int .i64 0) := x.c8
            have c9 : _ = some (Value.int .i64 0) := x.c9
            have c10 : _ = some (Value.int .i64 0) := x.c10
            have c11 : _ = some (Value.int .i64 0) := x.c11
            have c12 : _ = some (Value.slice none 0 0) := x.c12
            clear C x
            go_wp2_with fail
            with_reducible refine HC.out.mono ?_
            clear HC c0 c1 c2 c3 c4 c5 c6 c7 c8 c9 c10 c11 c12
            rintro e w5 ⟨rfl, r5, k5⟩
            go_upto_region 20 with (fail)
            generalize hW6 : (w5.alloc (.cells #[.int .i64 i, .int .i64 20, .int .i64 3, .int .i64 1, .int .i64 WA, .int .i64 0, .int .i64 0, .int .i64 0, .int .i64 0, .int .i64 0, .int .i64 0, .int .i64 0, .slice none 0 0] 25)).alloc (.cells #[.int .u8 0, .int .i32 0] 49) = w6
            have hb6 : Below w5.heap.size w5 w6 := by subst hW6; exact ((Below.refl _ _).alloc (Nat.le_refl _) _).alloc (by simp) _
            have HX6 := Lib.hid (show TX w6 w5.heap.size (⟨i, 20, 3, 1, WA, 0, 0, 0, 0, 0, 0, 0⟩ : Th) (.slice none 0 0) by subst hW6; exact (TX.new w5 (⟨i, 20, 3, 1, WA, 0, 0, 0, 0, 0, 0, 0⟩ : Th) _).alloc _)
            have HR6 := Lib.hid (r5.fresh hb6)
            have HG6 := Lib.hid ((HG.out.1.off k5).keep hb6)
            have hgt : ¬ ga = w5.heap.size := by have := r5.x.lt; omega
            have HNEXT := Lib.hid (HR6.out.put (⟨i, 20, 3, 1, WA, 0, 0, 0, 0, 0, 0, 0⟩ : Th))
            have HNG := Lib.hid (show TX (setT w6 ga (⟨i, 20, 3, 1, WA, 0, 0, 0, 0, 0, 0, 0⟩ : Th) (.slice none 0 0)) gb ⟨j, 13, 8, 1, WB, 0, 0, 0, 0, 0, 0, 0⟩ (.slice none 0 0) from (setT_other w6 HG.out.2 _ _).trans HG6.out)
            clear hW6 hb6 r5 k5 HK HG6 HG
            have x := HX6.out
            have y := HR6.out.x
            have yf := y.f
            have c0 : _ = some (Value.int .i64 i) := x.c0
            have c1 : _ = some (Value.int .i64 20) := x.c1
            have c2 : _ = some (Value.int .i64 3) := x.c2
            have c3 : _ = some (Value.int .i64 1) := x.c3
            have c4 : _ = some (Value.int .i64 WA) := x.c4
            have c5 : _ = some (Value.int .i64 0) := x.c5
            have c6 : _ = some (Value.int .i64 0) := x.c6
            have c7 : _ = some (Value.int .i64 0) := x.c7
            have c8 : _ = some (Value.int .i64 0) := x.c8
            have c9 : _ = some (Value.int .i64 0) := x.c9
            have c10 : _ = some (Value.int .i64 0) := x.c10
            have c11 : _ = some (Value.int .i64 0) := x.c11
            have c12 : _ = some (Value.slice none 0 0) := x.c12
            have r0 := y.c0
            have r1 := y.c1
            have r2 := y.c2
            have r3 := y.c3
            have r4 := y.c4
            have r5 := y.c5
            have r6 := y.c6
            have r7 := y.c7
            have r8 := y.c8
            have r9 := y.c9
            have r10 := y.c10
            have r11 := y.c11
            have r12 := y.c12
            clear x y HX6 HR6
            go_upto_region 21 with (fail)
            change Code.wp _ _ _ _ (setT w6 ga (⟨i, 20, 3, 1, WA, 0, 0, 0, 0, 0, 0, 0⟩ : Th) (.slice none 0 0))
            generalize hW8 : setT w6 ga (⟨i, 20, 3, 1, WA, 0, 0, 0, 0, 0, 0, 0⟩ : Th) (.slice none 0 0) = w8
            rw [hW8] at HNEXT HNG
            clear hW8 c0 c1 c2 c3 c4 c5 c6 c7 c8 c9 c10 c11 c12 r0 r1 r2 r3 r4 r5 r6 r7 r8 r9 r10 r11 r12 yf
            have HK := Lib.hid (HNEXT.out.swapB HNG.out HGB.out)
            have HG := Lib.hid (And.intro HNEXT.out.x (show ga ≠ gb from HNE.out))
            clear HNEXT HNG
            have C := HK.out.stepKL (⟨j, 13, 8, 1, WB, 0, 0, 0, 0, 0, 0, 0⟩ : Th) ad80 (by decide) (by decide)
            rw [tkN j WA WB WB 8 j (by have := HJ.out; have := HI0.out; omega), show thN (⟨j, 13, 8, 1, WB, 0, 0, 0, 0, 0, 0, 0⟩ : Th) = .agg #[.int .i64 j, .int .i64 13, .int .i64 8, .int .i64 1, .int .i64 WB, .int .i64 0, .int .i64 0, .int .i64 0, .int .i64 0, .int .i64 0, .int .i64 0, .int .i64 0, .slice none 0 0] from rfl, show thN (⟨j, 11, 8, 1, WB, 0, 0, 0, 0, 0, 0, 0⟩ : Th) = .agg #[.int .i64 j, .int .i64 11, .int .i64 8, .int .i64 1, .int .i64 WB, .int .i64 0, .int .i64 0, .int .i64 0, .int .i64 0, .int .i64 0, .int .i64 0, .int .i64 0, .slice none 0 0] from rfl] at C
            have HC := Lib.hid C
            have x := HK.out.x
            have c0 : _ = some (Value.int .i64 j) := x.c0
            have c1 : _ = some (Value.int .i64 13) := x.c1
            have c2 : _ = some (Value.int .i64 8) := x.c2
            have c3 : _ = some (Value.int .i64 1) := x.c3
            have c4 : _ = some (Value.int .i64 WB) := x.c4
            have c5 : _ = some (Value.int .i64 0) := x.c5
            have c6 : _ = some (Value.int .i64 0) := x.c6
            have c7 : _ = some (Value.int .i64 0) := x.c7
            have c8 : _ = some (Value.int .i64 0) := x.c8
            have c9 : _ = some (Value.int .i64 0) := x.c9
            have c10 : _ = some (Value.int .i64 0) := x.c10
            have c11 : _ = some (Value.int .i64 0) := x.c11
            have c12 : _ = some (Value.slice none 0 0) := x.c12
            clear C x
            go_wp2_with fail
            with_reducible refine HC.out.mono ?_
            clear HC c0 c1 c2 c3 c4 c5 c6 c7 c8 c9 c10 c11 c12
            rintro e w5 ⟨rfl, r5, k5⟩
            go_upto_region 22 with (fail)
            generalize hW6 : (w5.alloc (.cells #[.int .i64 j, .int .i64 11, .int .i64 8, .int .i64 1, .int .i64 WB, .int .i64 0, .int .i64 0, .int .i64 0, .int .i64 0, .int .i64 0, .int .i64 0, .int .i64 0, .slice none 0 0] 25)).alloc (.cells #[.int .u8 0, .int .i32 0] 49) = w6
            have hb6 : Below w5.heap.size w5 w6 := by subst hW6; exact ((Below.refl _ _).alloc (Nat.le_refl _) _).alloc (by simp) _
            have HX6 := Lib.hid (show TX w6 w5.heap.size (⟨j, 11, 8, 1, WB, 0, 0, 0, 0, 0, 0, 0⟩ : Th) (.slice none 0 0) by subst hW6; exact (TX.new w5 (⟨j, 11, 8, 1, WB, 0, 0, 0, 0, 0, 0, 0⟩ : Th) _).alloc _)
            have HR6 := Lib.hid (r5.fresh hb6)
            have HG6 := Lib.hid ((HG.out.1.off k5).keep hb6)
            have hgt : ¬ gb = w5.heap.size := by have := r5.x.lt; omega
            have HNEXT := Lib.hid (HR6.out.put (⟨j, 11, 8, 1, WB, 0, 0, 0, 0, 0, 0, 0⟩ : Th))
            have HNG := Lib.hid (show TX (setT w6 gb (⟨j, 11, 8, 1, WB, 0, 0, 0, 0, 0, 0, 0⟩ : Th) (.slice none 0 0)) ga ⟨i, 20, 3, 1, WA, 0, 0, 0, 0, 0, 0, 0⟩ (.slice none 0 0) from (setT_other w6 HG.out.2 _ _).trans HG6.out)
            clear hW6 hb6 r5 k5 HK HG6 HG
            have x := HX6.out
            have y := HR6.out.x
            have yf := y.f
            have c0 : _ = some (Value.int .i64 j) := x.c0
            have c1 : _ = some (Value.int .i64 11) := x.c1
            have c2 : _ = some (Value.int .i64 8) := x.c2
            have c3 : _ = some (Value.int .i64 1) := x.c3
            have c4 : _ = some (Value.int .i64 WB) := x.c4
            have c5 : _ = some (Value.int .i64 0) := x.c5
            have c6 : _ = some (Value.int .i64 0) := x.c6
            have c7 : _ = some (Value.int .i64 0) := x.c7
            have c8 : _ = some (Value.int .i64 0) := x.c8
            have c9 : _ = some (Value.int .i64 0) := x.c9
            have c10 : _ = some (Value.int .i64 0) := x.c10
            have c11 : _ = some (Value.int .i64 0) := x.c11
            have c12 : _ = some (Value.slice none 0 0) := x.c12
            have r0 := y.c0
            have r1 := y.c1
            have r2 := y.c2
            have r3 := y.c3
            have r4 := y.c4
            have r5 := y.c5
            have r6 := y.c6
            have r7 := y.c7
            have r8 := y.c8
            have r9 := y.c9
            have r10 := y.c10
            have r11 := y.c11
            have r12 := y.c12
            clear x y HX6 HR6
            go_upto_region 27 with (fail)
            change Code.wp _ _ _ _ (setT w6 gb (⟨j, 11, 8, 1, WB, 0, 0, 0, 0, 0, 0, 0⟩ : Th) (.slice none 0 0))
            generalize hW8 : setT w6 gb (⟨j, 11, 8, 1, WB, 0, 0, 0, 0, 0, 0, 0⟩ : Th) (.slice none 0 0) = w8
            rw [hW8] at HNEXT HNG
            clear hW8 c0 c1 c2 c3 c4 c5 c6 c7 c8 c9 c10 c11 c12 r0 r1 r2 r3 r4 r5 r6 r7 r8 r9 r10 r11 r12 yf
            have hj := HJ.out
            have HC := Lib.hid (show Calls Try.prog 26 #[.pointer (some ⟨p, 0, none⟩), .int .i64 0] w8 fun e w' => e = .returned (.tuple #[.int .i64 (j), .int .u16 0]) ∧ RR W p gb 13 (⟨j, 11, 8, 1, WB, 0, 0, 0, 0, 0, 0, 0⟩ : Th) (lkZ (j) WA WB) 26 w' ∧ Kept w8 w' from loadKl HNEXT.out 0 (by decide) (by simp [lkZ]) (by decide) (by decide))
            clear HNEXT
            go_wp2_with fail
            with_reducible refine HC.out.mono ?_
            clear HC
            rintro e w9 ⟨rfl, r9, k9⟩
            have HR9 := Lib.hid r9
            have HX9 := Lib.hid (HNG.out.off k9)
            clear r9 k9 HNG
            subst hj
            go_wp2_with fail
            refine (known w9).mono ?_
            rintro e w10 ⟨rfl, b10⟩
            have r10 := HR9.out.fresh b10
            have x10 := HX9.out.keep b10
            have a1 : _ = some (Value.int .i64 11) := r10.x.c1
            have a2 : _ = some (Value.int .i64 8) := r10.x.c2
            have a3 : _ = some (Value.int .i64 20) := x10.c1
            have a4 : _ = some (Value.int .i64 3) := x10.c2
            have HEND := Lib.hid (HBW.out.trans (r10.b.mono HBW.out.size))
            clear r10 x10 b10 HR9 HX9
            go_wp2
            go_ret
            refine ⟨?_, HEND.out⟩
            first | rfl | (simp; done) | (simp; omega)
          | false =>
            have HK0 := Lib.hid (show RR W p gb 13 ⟨j, 13, 8, 1, WB, 0, 0, 0, 0, 0, 0, 0⟩ (lkZ 0 WA WB) 23 wr from HK.out)
            have HG := Lib.hid (show TX wr ga ⟨i, 13, 3, 1, WA, 0, 0, 0, 0, 0, 0, 0⟩ (.slice none 0 0) ∧ ga ≠ gb from ⟨HG.out, HNE.out⟩)
            have HK := HK0
            clear HK0
            have hkj : ad j 1 = i + 2 := by rw [← HJ.out]; exact (IntWalk.wrap64_in (i + 1 + 1) (by have := HI0.out; omega)).trans (by omega)
            have C := HK.out.stepKL (⟨j, 13, 8, 1, WB, 0, 0, 0, 0, 0, 0, 0⟩ : Th) ad80 (by decide) (by decide)
            rw [tkY j WA WB WB 8 (i + 2) hkj, show thN (⟨j, 13, 8, 1, WB, 0, 0, 0, 0, 0, 0, 0⟩ : Th) = .agg #[.int .i64 j, .int .i64 13, .int .i64 8, .int .i64 1, .int .i64 WB, .int .i64 0, .int .i64 0, .int .i64 0, .int .i64 0, .int .i64 0, .int .i64 0, .int .i64 0, .slice none 0 0] from rfl, show thN (⟨j, 20, 8, 1, WB, 0, 0, 0, 0, 0, 0, 0⟩ : Th) = .agg #[.int .i64 j, .int .i64 20, .int .i64 8, .int .i64 1, .int .i64 WB, .int .i64 0, .int .i64 0, .int .i64 0, .int .i64 0, .int .i64 0, .int .i64 0, .int .i64 0, .slice none 0 0] from rfl] at C
            have HC := Lib.hid C
            have x := HK.out.x
            have c0 : _ = some (Value.int .i64 j) := x.c0
            have c1 : _ = some (Value.int .i64 13) := x.c1
            have c2 : _ = some (Value.int .i64 8) := x.c2
            have c3 : _ = some (Value.int .i64 1) := x.c3
            have c4 : _ = some (Value.int .i64 WB) := x.c4
            have c5 : _ = some (Value.int .i64 0) := x.c5
            have c6 : _ = some (Value.int .i64 0) := x.c6
            have c7 : _ = some (Value.int .i64 0) := x.c7
            have c8 : _ = some (Value.int .i64 0) := x.c8
            have c9 : _ = some (Value.int .i64 0) := x.c9
            have c10 : _ = some (Value.int .i64 0) := x.c10
            have c11 : _ = some (Value.int .i64 0) := x.c11
            have c12 : _ = some (Value.slice none 0 0) := x.c12
            clear C x
            go_wp2_with fail
            with_reducible refine HC.out.mono ?_
            clear HC c0 c1 c2 c3 c4 c5 c6 c7 c8 c9 c10 c11 c12
            rintro e w5 ⟨rfl, r5, k5⟩
            go_upto_region 24 with (fail)
            generalize hW6 : (w5.alloc (.cells #[.int .i64 j, .int .i64 20, .int .i64 8, .int .i64 1, .int .i64 WB, .int .i64 0, .int .i64 0, .int .i64 0, .int .i64 0, .int .i64 0, .int .i64 0, .int .i64 0, .slice none 0 0] 25)).alloc (.cells #[.int .u8 0, .int .i32 0] 49) = w6
            have hb6 : Below w5.heap.size w5 w6 := by subst hW6; exact ((Below.refl _ _).alloc (Nat.le_refl _) _).alloc (by simp) _
            have HX6 := Lib.hid (show TX w6 w5.heap.size (⟨j, 20, 8, 1, WB, 0, 0, 0, 0, 0, 0, 0⟩ : Th) (.slice none 0 0) by subst hW6; exact (TX.new w5 (⟨j, 20, 8, 1, WB, 0, 0, 0, 0, 0, 0, 0⟩ : Th) _).alloc _)
            have HR6 := Lib.hid (r5.fresh hb6)
            have HG6 := Lib.hid ((HG.out.1.off k5).keep hb6)
            have hgt : ¬ gb = w5.heap.size := by have := r5.x.lt; omega
            have HNEXT := Lib.hid (HR6.out.put (⟨j, 20, 8, 1, WB, 0, 0, 0, 0, 0, 0, 0⟩ : Th))
            have HNG := Lib.hid (show TX (setT w6 gb (⟨j, 20, 8, 1, WB, 0, 0, 0, 0, 0, 0, 0⟩ : Th) (.slice none 0 0)) ga ⟨i, 13, 3, 1, WA, 0, 0, 0, 0, 0, 0, 0⟩ (.slice none 0 0) from (setT_other w6 HG.out.2 _ _).trans HG6.out)
            clear hW6 hb6 r5 k5 HK HG6 HG
            have x := HX6.out
            have y := HR6.out.x
            have yf := y.f
            have c0 : _ = some (Value.int .i64 j) := x.c0
            have c1 : _ = some (Value.int .i64 20) := x.c1
            have c2 : _ = some (Value.int .i64 8) := x.c2
            have c3 : _ = some (Value.int .i64 1) := x.c3
            have c4 : _ = some (Value.int .i64 WB) := x.c4
            have c5 : _ = some (Value.int .i64 0) := x.c5
            have c6 : _ = some (Value.int .i64 0) := x.c6
            have c7 : _ = some (Value.int .i64 0) := x.c7
            have c8 : _ = some (Value.int .i64 0) := x.c8
            have c9 : _ = some (Value.int .i64 0) := x.c9
            have c10 : _ = some (Value.int .i64 0) := x.c10
            have c11 : _ = some (Value.int .i64 0) := x.c11
            have c12 : _ = some (Value.slice none 0 0) := x.c12
            have r0 := y.c0
            have r1 := y.c1
            have r2 := y.c2
            have r3 := y.c3
            have r4 := y.c4
            have r5 := y.c5
            have r6 := y.c6
            have r7 := y.c7
            have r8 := y.c8
            have r9 := y.c9
            have r10 := y.c10
            have r11 := y.c11
            have r12 := y.c12
            clear x y HX6 HR6
            go_upto_region 25 with (fail)
            change Code.wp _ _ _ _ (setT w6 gb (⟨j, 20, 8, 1, WB, 0, 0, 0, 0, 0, 0, 0⟩ : Th) (.slice none 0 0))
            generalize hW8 : setT w6 gb (⟨j, 20, 8, 1, WB, 0, 0, 0, 0, 0, 0, 0⟩ : Th) (.slice none 0 0) = w8
            rw [hW8] at HNEXT HNG
            clear hW8 c0 c1 c2 c3 c4 c5 c6 c7 c8 c9 c10 c11 c12 r0 r1 r2 r3 r4 r5 r6 r7 r8 r9 r10 r11 r12 yf
            have HK := Lib.hid (HNEXT.out.swapB HNG.out HGA.out)
            have HG := Lib.hid (And.intro HNEXT.out.x (show gb ≠ ga from fun e => HNE.out e.symm))
            clear HNEXT HNG
            have C := HK.out.stepKL (⟨i, 13, 3, 1, WA, 0, 0, 0, 0, 0, 0, 0⟩ : Th) ad30 (by decide) (by decide)
            rw [tkN i WA WB WA 3 (i + 2) (by have := HI0.out; omega), show thN (⟨i, 13, 3, 1, WA, 0, 0, 0, 0, 0, 0, 0⟩ : Th) = .agg #[.int .i64 i, .int .i64 13, .int .i64 3, .int .i64 1, .int .i64 WA, .int .i64 0, .int .i64 0, .int .i64 0, .int .i64 0, .int .i64 0, .int .i64 0, .int .i64 0, .slice none 0 0] from rfl, show thN (⟨i, 11, 3, 1, WA, 0, 0, 0, 0, 0, 0, 0⟩ : Th) = .agg #[.int .i64 i, .int .i64 11, .int .i64 3, .int .i64 1, .int .i64 WA, .int .i64 0, .int .i64 0, .int .i64 0, .int .i64 0, .int .i64 0, .int .i64 0, .int .i64 0, .slice none 0 0] from rfl] at C
            have HC := Lib.hid C
            have x := HK.out.x
            have c0 : _ = some (Value.int .i64 i) := x.c0
            have c1 : _ = some (Value.int .i64 13) := x.c1
            have c2 : _ = some (Value.int .i64 3) := x.c2
            have c3 : _ = some (Value.int .i64 1) := x.c3
            have c4 : _ = some (Value.int .i64 WA) := x.c4
            have c5 : _ = some (Value.int .i64 0) := x.c5
            have c6 : _ = some (Value.int .i64 0) := x.c6
            have c7 : _ = some (Value.int .i64 0) := x.c7
            have c8 : _ = some (Value.int .i64 0) := x.c8
            have c9 : _ = some (Value.int .i64 0) := x.c9
            have c10 : _ = some (Value.int .i64 0) := x.c10
            have c11 : _ = some (Value.int .i64 0) := x.c11
            have c12 : _ = some (Value.slice none 0 0) := x.c12
            clear C x
            go_wp2_with fail
            with_reducible refine HC.out.mono ?_
            clear HC c0 c1 c2 c3 c4 c5 c6 c7 c8 c9 c10 c11 c12
            rintro e w5 ⟨rfl, r5, k5⟩
            go_upto_region 26 with (fail)
            generalize hW6 : (w5.alloc (.cells #[.int .i64 i, .int .i64 11, .int .i64 3, .int .i64 1, .int .i64 WA, .int .i64 0, .int .i64 0, .int .i64 0, .int .i64 0, .int .i64 0, .int .i64 0, .int .i64 0, .slice none 0 0] 25)).alloc (.cells #[.int .u8 0, .int .i32 0] 49) = w6
            have hb6 : Below w5.heap.size w5 w6 := by subst hW6; exact ((Below.refl _ _).alloc (Nat.le_refl _) _).alloc (by simp) _
            have HX6 := Lib.hid (show TX w6 w5.heap.size (⟨i, 11, 3, 1, WA, 0, 0, 0, 0, 0, 0, 0⟩ : Th) (.slice none 0 0) by subst hW6; exact (TX.new w5 (⟨i, 11, 3, 1, WA, 0, 0, 0, 0, 0, 0, 0⟩ : Th) _).alloc _)
            have HR6 := Lib.hid (r5.fresh hb6)
            have HG6 := Lib.hid ((HG.out.1.off k5).keep hb6)
            have hgt : ¬ ga = w5.heap.size := by have := r5.x.lt; omega
            have HNEXT := Lib.hid (HR6.out.put (⟨i, 11, 3, 1, WA, 0, 0, 0, 0, 0, 0, 0⟩ : Th))
            have HNG := Lib.hid (show TX (setT w6 ga (⟨i, 11, 3, 1, WA, 0, 0, 0, 0, 0, 0, 0⟩ : Th) (.slice none 0 0)) gb ⟨j, 20, 8, 1, WB, 0, 0, 0, 0, 0, 0, 0⟩ (.slice none 0 0) from (setT_other w6 HG.out.2 _ _).trans HG6.out)
            clear hW6 hb6 r5 k5 HK HG6 HG
            have x := HX6.out
            have y := HR6.out.x
            have yf := y.f
            have c0 : _ = some (Value.int .i64 i) := x.c0
            have c1 : _ = some (Value.int .i64 11) := x.c1
            have c2 : _ = some (Value.int .i64 3) := x.c2
            have c3 : _ = some (Value.int .i64 1) := x.c3
            have c4 : _ = some (Value.int .i64 WA) := x.c4
            have c5 : _ = some (Value.int .i64 0) := x.c5
            have c6 : _ = some (Value.int .i64 0) := x.c6
            have c7 : _ = some (Value.int .i64 0) := x.c7
            have c8 : _ = some (Value.int .i64 0) := x.c8
            have c9 : _ = some (Value.int .i64 0) := x.c9
            have c10 : _ = some (Value.int .i64 0) := x.c10
            have c11 : _ = some (Value.int .i64 0) := x.c11
            have c12 : _ = some (Value.slice none 0 0) := x.c12
            have r0 := y.c0
            have r1 := y.c1
            have r2 := y.c2
            have r3 := y.c3
            have r4 := y.c4
            have r5 := y.c5
            have r6 := y.c6
            have r7 := y.c7
            have r8 := y.c8
            have r9 := y.c9
            have r10 := y.c10
            have r11 := y.c11
            have r12 := y.c12
            clear x y HX6 HR6
            go_upto_region 27 with (fail)
            change Code.wp _ _ _ _ (setT w6 ga (⟨i, 11, 3, 1, WA, 0, 0, 0, 0, 0, 0, 0⟩ : Th) (.slice none 0 0))
            generalize hW8 : setT w6 ga (⟨i, 11, 3, 1, WA, 0, 0, 0, 0, 0, 0, 0⟩ : Th) (.slice none 0 0) = w8
            rw [hW8] at HNEXT HNG
            clear hW8 c0 c1 c2 c3 c4 c5 c6 c7 c8 c9 c10 c11 c12 r0 r1 r2 r3 r4 r5 r6 r7 r8 r9 r10 r11 r12 yf
            have hj := HJ.out
            have HC := Lib.hid (show Calls Try.prog 26 #[.pointer (some ⟨p, 0, none⟩), .int .i64 0] w8 fun e w' => e = .returned (.tuple #[.int .i64 (i + 2), .int .u16 0]) ∧ RR W p ga 13 (⟨i, 11, 3, 1, WA, 0, 0, 0, 0, 0, 0, 0⟩ : Th) (lkZ (i + 2) WA WB) 26 w' ∧ Kept w8 w' from loadKl HNEXT.out 0 (by decide) (by simp [lkZ]) (by decide) (by decide))
            clear HNEXT
            go_wp2_with fail
            with_reducible refine HC.out.mono ?_
            clear HC
            rintro e w9 ⟨rfl, r9, k9⟩
            have HR9 := Lib.hid r9
            have HX9 := Lib.hid (HNG.out.off k9)
            clear r9 k9 HNG
            subst hj
            go_wp2_with fail
            refine (known w9).mono ?_
            rintro e w10 ⟨rfl, b10⟩
            have r10 := HR9.out.fresh b10
            have x10 := HX9.out.keep b10
            have a1 : _ = some (Value.int .i64 11) := r10.x.c1
            have a2 : _ = some (Value.int .i64 3) := r10.x.c2
            have a3 : _ = some (Value.int .i64 20) := x10.c1
            have a4 : _ = some (Value.int .i64 8) := x10.c2
            have HEND := Lib.hid (HBW.out.trans (r10.b.mono HBW.out.size))
            clear r10 x10 b10 HR9 HX9
            go_wp2
            go_ret
            refine ⟨?_, HEND.out⟩
            first | rfl | (simp; done) | (simp; omega)

end Go.Proofs.Ythefdglocnalhaa.M2
