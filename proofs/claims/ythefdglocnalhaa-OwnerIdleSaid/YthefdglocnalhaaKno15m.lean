/-
  The chapter's example (reaperlaw15.known) is told. Conditions: none.
-/
import Derived.Test.YthefdglocnalhaaNil15m
import Derived.Deep.Cut
namespace Go.Proofs.Ythefdglocnalhaa.M2
open Go.RowKit

/-- The example's thread, cells and steps behind k steps. -/
def knS : Nat → Th × List Int × Int
  | 0 => (bgT t0 (wd 1 7), [0, 0, 0], 1)
  | k + 1 => ((stp 8 (knS k).1 (knS k).2.1).t, (stp 8 (knS k).1 (knS k).2.1).zs, (knS k).2.2 + (stp 8 (knS k).1 (knS k).2.1).c)
def knW : List Int := [2, 5, 6, 15, 7, 8, 9, 10, 11, 12, 13, 20]
set_option maxRecDepth 100000 in
theorem knF : ∀ k, k < 12 → ((stp 8 (knS k).1 (knS k).2.1).t.pc = knW.getD k 0 ∧ (stp 8 (knS k).1 (knS k).2.1).d = false ∧ ad (knS k).1.rc 0 = (knS k).1.rc ∧ 0 ≤ (knS k).2.2 ∧ (knS k).2.2 ≤ 20) := by decide +kernel
theorem knE : (knS 12).1.rc = 3 ∧ decide (1 ≤ (knS 12).1.pc ∧ (knS 12).1.pc ≤ 16) = false := by decide +kernel

/-- The list that is wanted, in a block of its own. -/
def WB (w : World) (g : Nat) : Prop := w.heap[g]? = some (.cells #[.int .i64 2, .int .i64 5, .int .i64 6, .int .i64 15, .int .i64 7, .int .i64 8, .int .i64 9, .int .i64 10, .int .i64 11, .int .i64 12, .int .i64 13, .int .i64 20] 3 (0, 0))
theorem WB.cell {w : World} {g k : Nat} (h : WB w g) (hk : k < 12) : w.cell? ⟨g, k, none⟩ = some (.int .i64 (knW.getD k 0)) := by
  unfold WB at h
  rcases k with _ | _ | _ | _ | _ | _ | _ | _ | _ | _ | _ | _ | k <;> first | (simp [World.cell?, h, knW]; done) | omega
theorem WB.off {w w' : World} {g : Nat} (h : WB w g) (k : Kept w w') : WB w' g := k _ _ _ h (by decide) (by decide)
theorem WB.keep {w w' : World} {g : Nat} (h : WB w g) (k : Below w.heap.size w w') : WB w' g := h.off (keptOf k)

/-- What holds at each round's head. -/
structure KR (w : World) (p gt gw : Nat) (k : Nat) (wr : World) : Prop where
  m : Mem1 wr w.heap.size p 8 (knS k).2.1 (knS k).2.2
  x : TX wr gt (knS k).1 (.slice none 0 0)
  wb : WB wr gw
  b : Below w.heap.size w wr
  g1 : w.heap.size ≤ gt
  g2 : w.heap.size ≤ gw
  ne : gt ≠ gw

theorem KR.step {w wr w5 : World} {p gt gw k : Nat} (h : KR w p gt gw k wr) (m : Mem1 w5 w.heap.size p 8 (stp 8 (knS k).1 (knS k).2.1).zs ((knS k).2.2 + (stp 8 (knS k).1 (knS k).2.1).c)) (x : TX w5 gt (stp 8 (knS k).1 (knS k).2.1).t (.slice none 0 0)) (b : WB w5 gw) (hb : Below w.heap.size w w5) : KR w p gt gw (k + 1) w5 :=
  ⟨m, x, b, hb, h.g1, h.g2, h.ne⟩

set_option maxRecDepth 100000 in
set_option maxHeartbeats 16000000 in
theorem known (w : World) : Calls Try.prog 10 #[] w fun e w' => e = .returned (.bool true) ∧ Below w.heap.size w w' := by
  have HT0 := Lib.hid (show thN t0 = .agg #[.int .i64 0, .int .i64 0, .int .i64 0, .int .i64 0, .int .i64 0, .int .i64 0, .int .i64 0, .int .i64 0, .int .i64 0, .int .i64 0, .int .i64 0, .int .i64 0, .slice none 0 0] from rfl)
  go_enter Try.func10, Try.ntmps10
  go_wp2_with fail
  refine (openIn 1 (by omega) (by omega) w).mono ?_
  rintro e w1 ⟨rfl, m1, b1⟩
  have HM1 := Lib.hid (show Mem1 w1 w.heap.size w.heap.size 8 [0, 0, 0] 1 from m1)
  have HB1 := Lib.hid b1
  clear m1 b1
  have C := beginN w1 t0 1 7 ⟨⟨by decide, by decide⟩, ⟨by decide, by decide⟩⟩
  rw [HT0.out] at C
  have HC := Lib.hid C
  clear C
  go_wp2_with fail
  with_reducible refine HC.out.mono ?_
  clear HC
  rintro e w2 ⟨rfl, b2⟩
  have HE := Lib.hid (show thN (bgT t0 (wd 1 7)) = .agg #[.int .i64 (bgT t0 (wd 1 7)).ti, .int .i64 (bgT t0 (wd 1 7)).pc, .int .i64 (bgT t0 (wd 1 7)).rc, .int .i64 (bgT t0 (wd 1 7)).sq, .int .i64 (bgT t0 (wd 1 7)).wo, .int .i64 (bgT t0 (wd 1 7)).lk, .int .i64 (bgT t0 (wd 1 7)).cu, .int .i64 (bgT t0 (wd 1 7)).pv, .int .i64 (bgT t0 (wd 1 7)).nt, .int .i64 (bgT t0 (wd 1 7)).mx, .int .i64 (bgT t0 (wd 1 7)).ps, .int .i64 (bgT t0 (wd 1 7)).rn, .slice none 0 0] from rfl)
  rw [HE.out]
  have HP := Lib.hid (show (bgT t0 (wd 1 7)).pc = 1 ∧ (bgT t0 (wd 1 7)).sq = 1 by decide +kernel)
  have HTS := Lib.hid (show bgT t0 (wd 1 7) = (knS 0).1 from rfl)
  obtain ⟨T, hT⟩ : ∃ T, bgT t0 (wd 1 7) = T := ⟨_, rfl⟩
  rw [hT] at HE HP HTS ⊢
  clear hT
  go_upto_region 3 with (fail)
  generalize hW3 : w2.alloc (.cells #[.int .i64 T.ti, .int .i64 T.pc, .int .i64 T.rc, .int .i64 T.sq, .int .i64 T.wo, .int .i64 T.lk, .int .i64 T.cu, .int .i64 T.pv, .int .i64 T.nt, .int .i64 T.mx, .int .i64 T.ps, .int .i64 T.rn, .slice none 0 0] 25) = w3
  have HX3 := Lib.hid (show TX w3 w2.heap.size T (.slice none 0 0) by subst hW3; exact TX.new w2 T _)
  have HB3 := Lib.hid (show Below w1.heap.size w1 w3 by subst hW3; exact b2.alloc b2.size _)
  have HS2 := Lib.hid (show w1.heap.size ≤ w2.heap.size from b2.size)
  clear hW3 b2
  have x1 := HX3.out.c1
  have x3 := HX3.out.c3
  rw [HP.out.1] at x1
  rw [HP.out.2] at x3
  go_upto_region 6 with (fail)
  generalize hW4 : w3.alloc (.cells #[.int .i64 2, .int .i64 5, .int .i64 6, .int .i64 15, .int .i64 7, .int .i64 8, .int .i64 9, .int .i64 10, .int .i64 11, .int .i64 12, .int .i64 13, .int .i64 20] 3) = w4
  have hb4 : Below w3.heap.size w3 w4 := by subst hW4; exact (Below.refl _ _).alloc (Nat.le_refl _) _
  have hKR : KR w w.heap.size w2.heap.size w3.heap.size 0 w4 := ⟨(HM1.out.keep HB3.out).keep hb4, by rw [← HTS.out]; exact HX3.out.keep hb4, by subst hW4; exact heap_alloc_new w3 _, (HB1.out.trans (HB3.out.mono HB1.out.size)).trans (hb4.mono (Nat.le_trans HB1.out.size HB3.out.size)), Nat.le_trans HB1.out.size HS2.out, Nat.le_trans HB1.out.size HB3.out.size, by have := HX3.out.lt; omega⟩
  have HK := Lib.hid hKR
  have gwl := Lib.hid (show w2.heap.size ≠ w3.heap.size from hKR.ne)
  clear hW4 hb4 hKR x1 x3 HX3 HB3 HS2 HM1 HB1 HE HP HTS
  generalize w2.heap.size = gt at *
  generalize w3.heap.size = gw at *
  generalize w.heap.size = p at HK
  go_wp2_with fail
  go_loopw [5] (fun kv wr => ∃ k : Nat, k ≤ 12 ∧ kv = .int .i64 (k : Int) ∧ KR w p gt gw k wr) (fun kv _ => 12 - (intOf kv).toNat)
  case atStart => exact ⟨0, by omega, rfl, HK.out⟩
  case round =>
    obtain ⟨k, hk, rfl, hK⟩ := hrel
    clear HK
    have HK := Lib.hid hK
    by_cases hlt : k < 12
    · have HF := Lib.hid (knF k hlt)
      have HLT := Lib.hid hlt
      have i1 : (k : Int) < 12 := by omega
      have HNX := Lib.hid (fun w5 => KR.step (w5 := w5) hK)
      obtain ⟨T, hT⟩ : ∃ T, (knS k).1 = T := ⟨_, rfl⟩
      obtain ⟨zs, hzs⟩ : ∃ zs, (knS k).2.1 = zs := ⟨_, rfl⟩
      obtain ⟨st, hst⟩ : ∃ st, (knS k).2.2 = st := ⟨_, rfl⟩
      have hm := hK.m
      have x := hK.x
      rw [hT, hzs, hst] at HF HNX
      rw [hzs, hst] at hm
      rw [hT] at x
      have C := stepK hm T HF.out.2.2.1 HF.out.2.2.2.1 (by have := HF.out.2.2.2.2; omega)
      obtain ⟨S, hS⟩ : ∃ S, stp 8 T zs = S := ⟨_, rfl⟩
      rw [hS] at HF HNX C
      rw [show thN T = .agg #[.int .i64 T.ti, .int .i64 T.pc, .int .i64 T.rc, .int .i64 T.sq, .int .i64 T.wo, .int .i64 T.lk, .int .i64 T.cu, .int .i64 T.pv, .int .i64 T.nt, .int .i64 T.mx, .int .i64 T.ps, .int .i64 T.rn, .slice none 0 0] from rfl, show thN S.t = .agg #[.int .i64 S.t.ti, .int .i64 S.t.pc, .int .i64 S.t.rc, .int .i64 S.t.sq, .int .i64 S.t.wo, .int .i64 S.t.lk, .int .i64 S.t.cu, .int .i64 S.t.pv, .int .i64 S.t.nt, .int .i64 S.t.mx, .int .i64 S.t.ps, .int .i64 S.t.rn, .slice none 0 0] from rfl, HF.out.2.1] at C
      have HC := Lib.hid C
      have HWB := Lib.hid hK.wb
      have HGT := Lib.hid x
      have c0 := x.c0
      have c1 := x.c1
      have c2 := x.c2
      have c3 := x.c3
      have c4 := x.c4
      have c5 := x.c5
      have c6 := x.c6
      have c7 := x.c7
      have c8 := x.c8
      have c9 := x.c9
      have c10 := x.c10
      have c11 := x.c11
      have c12 := x.c12
      clear C hT hzs hst hm hS hlt hk x hK
      go_wp2_with fail
      with_reducible refine HC.out.mono ?_
      clear HC c0 c1 c2 c3 c4 c5 c6 c7 c8 c9 c10 c11 c12
      rintro e w5 ⟨rfl, m5, b5, k5⟩
      go_upto_region 10 with (fail)
      generalize hW6 : (w5.alloc (.cells #[.int .i64 S.t.ti, .int .i64 S.t.pc, .int .i64 S.t.rc, .int .i64 S.t.sq, .int .i64 S.t.wo, .int .i64 S.t.lk, .int .i64 S.t.cu, .int .i64 S.t.pv, .int .i64 S.t.nt, .int .i64 S.t.mx, .int .i64 S.t.ps, .int .i64 S.t.rn, .slice none 0 0] 25)).alloc (.cells #[.int .u8 S.k, .int .i32 S.v] 49) = w6
      have hb6 : Below w5.heap.size w5 w6 := by subst hW6; exact ((Below.refl _ _).alloc (Nat.le_refl _) _).alloc (by simp) _
      have HX6 := Lib.hid (show TX w6 w5.heap.size S.t (.slice none 0 0) by subst hW6; exact (TX.new w5 S.t _).alloc _)
      have HM6 := Lib.hid (m5.keep hb6)
      have HW6 := Lib.hid ((HWB.out.off k5).keep hb6)
      have HG6 := Lib.hid ((HGT.out.off k5).keep hb6)
      have HB6 := Lib.hid ((HK.out.b.trans b5).trans (hb6.mono (HK.out.b.trans b5).size))
      have hgt : ¬ gt = w5.heap.size := by have := (HGT.out.off k5).lt; omega
      clear hW6 hb6 m5 b5 k5 HGT HWB
      have y1 := HX6.out.c1
      rw [HF.out.1] at y1
      have y2 := HW6.out.cell HLT.out
      generalize knW.getD k 0 = z at *
      go_wp2
      go_quiet (fail)
      generalize hW7 : w6.drewN nq = w7
      have HX7 := Lib.hid (show TX w7 w5.heap.size S.t (.slice none 0 0) by subst hW7; exact HX6.out)
      have HG7 := Lib.hid (show TX w7 gt T (.slice none 0 0) by subst hW7; exact HG6.out)
      have HB67 : Below w6.heap.size w6 w7 := by subst hW7; exact below_drewN (Below.refl _ _) _
      have HN := Lib.hid (HNX.out (setT w7 gt S.t (.slice none 0 0)) ((HM6.out.keep HB67).setT HG7.out _ _) (HG7.out.all _ _) (setT_kept w7 (HW6.out.keep HB67) (fun e => gwl.out e.symm) _ _) (setT_below (HB6.out.trans (HB67.mono HB6.out.size)) HK.out.g1 _ _))
      have x := HX7.out
      have y := HG7.out
      have yf := y.f
      have c0 := x.c0
      have c1 := x.c1
      have c2 := x.c2
      have c3 := x.c3
      have c4 := x.c4
      have c5 := x.c5
      have c6 := x.c6
      have c7 := x.c7
      have c8 := x.c8
      have c9 := x.c9
      have c10 := x.c10
      have c11 := x.c11
      have c12 := x.c12
      have r0 := y.c0
      have r1 := y.c1
      have r2 := y.c2
      have r3 := y.c3
      have r4 := y.c4
      have r5 := y.c5
      have r6 := y.c6
      have r7 := y.c7
      have r8 := y.c8
      have r9 := y.c9
      have r10 := y.c10
      have r11 := y.c11
      have r12 := y.c12
      clear hW7 HB67 x y y1 y2 HM6 HW6 HG6 HX6 HB6 HNX
      go_wp2
      go_roundw
      case rel => exact ⟨k + 1, HLT.out, by go_num, HN.out⟩
      case measure => simp [intOf]; omega
    · obtain rfl : k = 12 := by omega
      have HE := Lib.hid knE
      obtain ⟨T, hT⟩ : ∃ T, (knS 12).1 = T := ⟨_, rfl⟩
      have x := hK.x
      rw [hT] at x HE
      have A := asksO wr T (.slice none 0 0) ⟨_, _, _, rfl⟩
      rw [HE.out.2] at A
      rw [show thV T (.slice none 0 0) = .agg #[.int .i64 T.ti, .int .i64 T.pc, .int .i64 T.rc, .int .i64 T.sq, .int .i64 T.wo, .int .i64 T.lk, .int .i64 T.cu, .int .i64 T.pv, .int .i64 T.nt, .int .i64 T.mx, .int .i64 T.ps, .int .i64 T.rn, .slice none 0 0] from rfl] at A
      have c0 := x.c0
      have c1 := x.c1
      have c2 := x.c2
      have c3 := x.c3
      have c4 := x.c4
      have c5 := x.c5
      have c6 := x.c6
      have c7 := x.c7
      have c8 := x.c8
      have c9 := x.c9
      have c10 := x.c10
      have c11 := x.c11
      have c12 := x.c12
      rw [HE.out.1] at A c2
      have HA := Lib.hid A
      have HB := Lib.hid hK.b
      clear A hT hK HK hk hlt x
      go_wp2_with fail
      with_reducible refine HA.out.mono ?_
      clear HA c0 c1 c2 c3 c4 c5 c6 c7 c8 c9 c10 c11 c12
      rintro e w' ⟨rfl, b⟩
      have HB2 := Lib.hid (HB.out.trans (b.mono HB.out.size))
      clear b
      go_wp2
      go_ret
      exact ⟨rfl, HB2.out⟩

end Go.Proofs.Ythefdglocnalhaa.M2
