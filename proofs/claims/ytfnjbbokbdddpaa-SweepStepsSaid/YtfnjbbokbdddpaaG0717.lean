/-
  Step of reaperref17. Conditions: a document's memory of at most 1000 cells; steps below a million. Step of reaperref17. Conditions: a document's memory of at most 1000 cells; steps below a million. Step of reaperref17. Conditions: a document's memory of at most 1000 cells; steps below a million. Step of reaperref17. Conditions: a document's memory of at most 1000 cells; steps below a million. Step of reaperref17. Conditions: a document's memory of at most 1000 cells; steps below a million.
-/
import Derived.Test.YtfnjbbokbdddpaaG0617
namespace Go.Proofs.Ytfnjbbokbdddpaa.M2
open Go.RowKit

section
variable {w : World} {B : Nat} {u : Value} {size : Int} {zs : List Int} {st : Int} {t : Th}

set_option maxRecDepth 100000 in
set_option maxHeartbeats 16000000 in
theorem step46 (h : w.ownsRow B 2 1 u zs.length (zs.map (Value.int .i64))) (hB : B ≤ w.heap.size) (hl : zs.length ≤ 1000) (ao : Option Addr) (n cap : Nat) (ag : Int) (hp : t.pc = 46) (k0 : 0 ≤ st) (k1 : st < 1000000) :
    Calls Try.prog 29 #[.agg #[.int .i64 size, u, .int .i64 st], .int .i64 ag, thV t (.slice ao n cap)] w (RQ w B u size (.slice ao n cap) (swt ag t zs) st) := by
  obtain ⟨au, cu, rfl⟩ := ownShape h
  rw [show thV t (.slice ao n cap) = .agg #[.int .i64 t.ti, .int .i64 t.pc, .int .i64 t.rc, .int .i64 t.sq, .int .i64 t.wo, .int .i64 t.lk, .int .i64 t.cu, .int .i64 t.pv, .int .i64 t.nt, .int .i64 t.mx, .int .i64 t.ps, .int .i64 t.rn, .slice ao n cap] from rfl]
  have HL := Lib.hid hl
  have HBB := Lib.hid hB
  have HSW := Lib.hid (show swt ag t zs = ⟨{ t with pc := 47 }, sto zs (ad t.pv 3) t.lk, cn zs (ad t.pv 3)⟩ by rw [swt46 ag t zs hp])
  have HPC := Lib.hid hp
  clear hp
  obtain ⟨W, hW⟩ : ∃ W, (((w.alloc (.cells #[.int .i64 size, .slice au zs.length cu, .int .i64 st] 39)).alloc (.cells #[.int .i64 t.ti, .int .i64 t.pc, .int .i64 t.rc, .int .i64 t.sq, .int .i64 t.wo, .int .i64 t.lk, .int .i64 t.cu, .int .i64 t.pv, .int .i64 t.nt, .int .i64 t.mx, .int .i64 t.ps, .int .i64 t.rn, .slice ao n cap] 25)).alloc (.cells #[.int .i64 0, .slice none 0 0, .int .i64 0] 39)).alloc (.cells #[.int .i64 0, .int .i64 0, .int .i64 0, .int .i64 0, .int .i64 0, .int .i64 0, .int .i64 0, .int .i64 0, .int .i64 0, .int .i64 0, .int .i64 0, .int .i64 0, .slice none 0 0] 25) = W := ⟨_, rfl⟩
  have HP := Lib.hid (PB.new h t (.slice ao n cap) W hW)
  have HW := Lib.hid hW
  clear hW h hl hB
  go_enter Try.func29, Try.ntmps29
  go_upto_region 1 with (fail)
  rw [HW.out]
  clear HW
  have m0 := HP.out.m.c0
  have m1 := HP.out.m.c1
  have m2 := HP.out.m.c2
  go_upto_region 2 with (fail)
  have HC := Lib.hid (SC.new HP.out)
  generalize hWA : W.alloc (.cells #[.int .i64 size, .slice au zs.length cu, .int .i64 st] 39) = WA
  have HM := Lib.hid (show Boxed WA w.heap.size (.int .i64 size) (.slice au zs.length cu) (.int .i64 st) by subst hWA; exact HP.out.m.alloc _)
  have HKB := Lib.hid (show Boxed WA W.heap.size (.int .i64 size) (.slice au zs.length cu) (.int .i64 st) by subst hWA; exact Boxed.new _ _ _ _)
  rw [hWA] at HC
  have HSZ := Lib.hid (show w.heap.size + 4 < WA.heap.size by subst hWA; have := HP.out.s; simp; omega)
  clear hWA m0 m1 m2 HP
  generalize W.heap.size = KK at *
  have hK := HC.out.e
  have hk1 : ¬ KK = w.heap.size + 1 := by omega
  have hk2 : ¬ KK = w.heap.size + 1 + 1 := by omega
  have hk3 : ¬ KK = w.heap.size + 1 + 1 + 1 := by omega
  have hk4 : ¬ w.heap.size + 1 = KK := by omega
  have hk5 : ¬ w.heap.size + 1 + 1 = KK := by omega
  have hk6 : ¬ w.heap.size + 1 + 1 + 1 = KK := by omega
  clear hK
  have x1 := HC.out.x.c1
  rw [HPC.out] at x1
  go_upto_region 21 with (fail)
  clear x1
  have m0 := HM.out.c0
  have m1 := HM.out.c1
  have m2 := HM.out.c2
  have x5 := HC.out.x.c5
  have x6 := HC.out.x.c6
  have x7 := HC.out.x.c7
  have kf := HKB.out.f
  have q0 := HKB.out.c0
  have q1 := HKB.out.c1
  have q2' := HKB.out.c2
  have C := refStoreD (size := size) (st := st) HC.out.o (Nat.le_trans HBB.out HC.out.b.size) HL.out (ad t.pv 3) t.lk k0 k1
  rw [show (ad t.pv 3) = wrap64 (t.pv + 3) from rfl] at C
  have HCC := Lib.hid C
  clear C
  go_wp2_with fail
  with_reducible refine HCC.out.mono ?_
  clear HCC m0 m1 m2 x5 x6 x7 kf q0 q1 q2'
  rintro e w2 ⟨u', rfl, l2⟩
  rw [show wrap64 (t.pv + 3) = (ad t.pv 3) from rfl] at l2 ⊢
  obtain ⟨a2, q2, rfl⟩ := ownShape l2.1
  have HC2 := Lib.hid (HC.out.call (Nat.le_of_lt (by have := HSZ.out; omega)) l2)
  have HKB2 := Lib.hid (HKB.out.keep l2.2.2)
  clear l2 HC HKB
  obtain ⟨Z2, hZ2⟩ : ∃ Z, sto zs (ad t.pv 3) t.lk = Z := ⟨_, rfl⟩
  rw [hZ2] at HC2 HSW ⊢
  clear hZ2
  have kf := HKB2.out.f
  have q0 := HKB2.out.c0
  have q1 := HKB2.out.c1
  have q2' := HKB2.out.c2
  go_upto_region 22 with (fail)
  have HF := Lib.hid (HC2.out.setK (st + cn zs (ad t.pv 3)))
  clear kf q0 q1 q2' HC2 HKB2
  obtain ⟨v0, hv0⟩ : ∃ v, v = setM w2 KK (.int .i64 size) (.slice a2 Z2.length q2) (.int .i64 (st + cn zs (ad t.pv 3))) := ⟨_, rfl⟩
  rw [← hv0] at HF
  change Code.wp _ _ _ _ (setM w2 KK (.int .i64 size) (.slice a2 Z2.length q2) (.int .i64 (st + cn zs (ad t.pv 3))))
  rw [← hv0]
  clear hv0
  have yy := HF.out.x.c1
  have yf := HF.out.x.f
  go_upto_region 29 with (fail)
  have HF' := Lib.hid (HF.out.set (HF.out.x.s1 47))
  clear HF yy yf
  generalize hV : v0.setCell ⟨w.heap.size + 1, 1, none⟩ (.int .i64 47) = v1
  rw [hV] at HF'
  have HF := HF'
  clear HF' hV
  obtain ⟨T4, hT4⟩ : ∃ T4 : Th, ({ t with pc := 47 } : Th) = T4 := ⟨_, rfl⟩
  obtain ⟨s4, hs4⟩ : ∃ s4 : Int, st + cn zs (ad t.pv 3) = s4 := ⟨_, rfl⟩
  have HFF := HF.out
  rw [hT4] at HFF
  rw [hs4] at HFF ⊢
  have HEQ := Lib.hid (show Ending.returned (.tuple #[.agg #[.int .i64 size, (.slice a2 Z2.length q2), .int .i64 s4], thV T4 (.slice ao n cap)]) = .returned (.tuple #[.agg #[.int .i64 size, (.slice a2 Z2.length q2), .int .i64 (st + ((swt ag t zs)).c)], thV ((swt ag t zs)).t (.slice ao n cap)]) by rw [← hs4, ← hT4, HSW.out])
  replace HF := Lib.hid HFF
  have HZQ := Lib.hid (show (swt ag t zs).zs = Z2 by rw [HSW.out])
  clear hT4 hs4 HFF
  have m := HF.out.m
  have m0 := m.c0
  have m1 := m.c1
  have m2 := m.c2
  have x := HF.out.x
  have c0 := x.c0
  have c1 := x.c1
  have c2 := x.c2
  have c3 := x.c3
  have c4 := x.c4
  have c5 := x.c5
  have c6 := x.c6
  have c7 := x.c7
  have c8 := x.c8
  have c9 := x.c9
  have c10 := x.c10
  have c11 := x.c11
  have c12 := x.c12
  have y := HF.out.y
  have y0 := y.c0
  have y1 := y.c1
  have y2 := y.c2
  have yf := y.f
  have z := HF.out.z
  have r0 := z.c0
  have r1 := z.c1
  have r2 := z.c2
  have r3 := z.c3
  have r4 := z.c4
  have r5 := z.c5
  have r6 := z.c6
  have r7 := z.c7
  have r8 := z.c8
  have r9 := z.c9
  have r10 := z.c10
  have r11 := z.c11
  have r12 := z.c12
  have zf := z.f
  have FIN := HF.out.fin
  clear m x y z
  go_region
  go_wp2
  change bodyPost _ _ _ _ _ (setT (setM v1 (w.heap.size + 1 + 1) (.int .i64 size) (.slice a2 Z2.length q2) (.int .i64 s4)) (w.heap.size + 1 + 1 + 1) T4 (.slice ao n cap)).drew
  generalize setT (setM v1 (w.heap.size + 1 + 1) (.int .i64 size) (.slice a2 Z2.length q2) (.int .i64 s4)) (w.heap.size + 1 + 1 + 1) T4 (.slice ao n cap) = wf at *
  obtain ⟨fm, fx, o', l', b'⟩ := FIN
  have gm : Boxed wf.drew (w.heap.size + 1 + 1) (.int .i64 size) (.slice a2 Z2.length q2) (.int .i64 s4) := fm
  have gx := fx.drew
  refine bodyPost_ret (v := .tuple #[.agg #[.int .i64 size, (.slice a2 Z2.length q2), .int .i64 s4], thV T4 (.slice ao n cap)]) (by simp [results, Try.results29, go_sem, thV, gm.c0, gm.c1, gm.c2, gx.c0, gx.c1, gx.c2, gx.c3, gx.c4, gx.c5, gx.c6, gx.c7, gx.c8, gx.c9, gx.c10, gx.c11, gx.c12]) rfl ?_
  refine ⟨_, HEQ.out, ?_⟩
  rw [HZQ.out]
  exact ⟨own_at o' (fun _ _ _ => rfl), l', b'.drew⟩

set_option maxRecDepth 100000 in
set_option maxHeartbeats 16000000 in
theorem step47 (h : w.ownsRow B 2 1 u zs.length (zs.map (Value.int .i64))) (hB : B ≤ w.heap.size) (hl : zs.length ≤ 1000) (ao : Option Addr) (n cap : Nat) (ag : Int) (hp : t.pc = 47) (k0 : 0 ≤ st) (k1 : st < 1000000) :
    Calls Try.prog 29 #[.agg #[.int .i64 size, u, .int .i64 st], .int .i64 ag, thV t (.slice ao n cap)] w (RQ w B u size (.slice ao n cap) (swt ag t zs) st) := by
  obtain ⟨au, cu, rfl⟩ := ownShape h
  rw [show thV t (.slice ao n cap) = .agg #[.int .i64 t.ti, .int .i64 t.pc, .int .i64 t.rc, .int .i64 t.sq, .int .i64 t.wo, .int .i64 t.lk, .int .i64 t.cu, .int .i64 t.pv, .int .i64 t.nt, .int .i64 t.mx, .int .i64 t.ps, .int .i64 t.rn, .slice ao n cap] from rfl]
  have HL := Lib.hid hl
  have HBB := Lib.hid hB
  have HSW := Lib.hid (show swt ag t zs = ⟨{ t with pc := 41 }, sto zs (ad t.cu 1) 0, cn zs (ad t.cu 1)⟩ by rw [swt47 ag t zs hp])
  have HPC := Lib.hid hp
  clear hp
  obtain ⟨W, hW⟩ : ∃ W, (((w.alloc (.cells #[.int .i64 size, .slice au zs.length cu, .int .i64 st] 39)).alloc (.cells #[.int .i64 t.ti, .int .i64 t.pc, .int .i64 t.rc, .int .i64 t.sq, .int .i64 t.wo, .int .i64 t.lk, .int .i64 t.cu, .int .i64 t.pv, .int .i64 t.nt, .int .i64 t.mx, .int .i64 t.ps, .int .i64 t.rn, .slice ao n cap] 25)).alloc (.cells #[.int .i64 0, .slice none 0 0, .int .i64 0] 39)).alloc (.cells #[.int .i64 0, .int .i64 0, .int .i64 0, .int .i64 0, .int .i64 0, .int .i64 0, .int .i64 0, .int .i64 0, .int .i64 0, .int .i64 0, .int .i64 0, .int .i64 0, .slice none 0 0] 25) = W := ⟨_, rfl⟩
  have HP := Lib.hid (PB.new h t (.slice ao n cap) W hW)
  have HW := Lib.hid hW
  clear hW h hl hB
  go_enter Try.func29, Try.ntmps29
  go_upto_region 1 with (fail)
  rw [HW.out]
  clear HW
  have m0 := HP.out.m.c0
  have m1 := HP.out.m.c1
  have m2 := HP.out.m.c2
  go_upto_region 2 with (fail)
  have HC := Lib.hid (SC.new HP.out)
  generalize hWA : W.alloc (.cells #[.int .i64 size, .slice au zs.length cu, .int .i64 st] 39) = WA
  have HM := Lib.hid (show Boxed WA w.heap.size (.int .i64 size) (.slice au zs.length cu) (.int .i64 st) by subst hWA; exact HP.out.m.alloc _)
  have HKB := Lib.hid (show Boxed WA W.heap.size (.int .i64 size) (.slice au zs.length cu) (.int .i64 st) by subst hWA; exact Boxed.new _ _ _ _)
  rw [hWA] at HC
  have HSZ := Lib.hid (show w.heap.size + 4 < WA.heap.size by subst hWA; have := HP.out.s; simp; omega)
  clear hWA m0 m1 m2 HP
  generalize W.heap.size = KK at *
  have hK := HC.out.e
  have hk1 : ¬ KK = w.heap.size + 1 := by omega
  have hk2 : ¬ KK = w.heap.size + 1 + 1 := by omega
  have hk3 : ¬ KK = w.heap.size + 1 + 1 + 1 := by omega
  have hk4 : ¬ w.heap.size + 1 = KK := by omega
  have hk5 : ¬ w.heap.size + 1 + 1 = KK := by omega
  have hk6 : ¬ w.heap.size + 1 + 1 + 1 = KK := by omega
  clear hK
  have x1 := HC.out.x.c1
  rw [HPC.out] at x1
  go_upto_region 24 with (fail)
  clear x1
  have m0 := HM.out.c0
  have m1 := HM.out.c1
  have m2 := HM.out.c2
  have x5 := HC.out.x.c5
  have x6 := HC.out.x.c6
  have x7 := HC.out.x.c7
  have kf := HKB.out.f
  have q0 := HKB.out.c0
  have q1 := HKB.out.c1
  have q2' := HKB.out.c2
  have C := refStoreD (size := size) (st := st) HC.out.o (Nat.le_trans HBB.out HC.out.b.size) HL.out (ad t.cu 1) 0 k0 k1
  rw [show (ad t.cu 1) = wrap64 (t.cu + 1) from rfl] at C
  have HCC := Lib.hid C
  clear C
  go_wp2_with fail
  with_reducible refine HCC.out.mono ?_
  clear HCC m0 m1 m2 x5 x6 x7 kf q0 q1 q2'
  rintro e w2 ⟨u', rfl, l2⟩
  rw [show wrap64 (t.cu + 1) = (ad t.cu 1) from rfl] at l2 ⊢
  obtain ⟨a2, q2, rfl⟩ := ownShape l2.1
  have HC2 := Lib.hid (HC.out.call (Nat.le_of_lt (by have := HSZ.out; omega)) l2)
  have HKB2 := Lib.hid (HKB.out.keep l2.2.2)
  clear l2 HC HKB
  obtain ⟨Z2, hZ2⟩ : ∃ Z, sto zs (ad t.cu 1) 0 = Z := ⟨_, rfl⟩
  rw [hZ2] at HC2 HSW ⊢
  clear hZ2
  have kf := HKB2.out.f
  have q0 := HKB2.out.c0
  have q1 := HKB2.out.c1
  have q2' := HKB2.out.c2
  go_upto_region 25 with (fail)
  have HF := Lib.hid (HC2.out.setK (st + cn zs (ad t.cu 1)))
  clear kf q0 q1 q2' HC2 HKB2
  obtain ⟨v0, hv0⟩ : ∃ v, v = setM w2 KK (.int .i64 size) (.slice a2 Z2.length q2) (.int .i64 (st + cn zs (ad t.cu 1))) := ⟨_, rfl⟩
  rw [← hv0] at HF
  change Code.wp _ _ _ _ (setM w2 KK (.int .i64 size) (.slice a2 Z2.length q2) (.int .i64 (st + cn zs (ad t.cu 1))))
  rw [← hv0]
  clear hv0
  have yy := HF.out.x.c1
  have yf := HF.out.x.f
  go_upto_region 29 with (fail)
  have HF' := Lib.hid (HF.out.set (HF.out.x.s1 41))
  clear HF yy yf
  generalize hV : v0.setCell ⟨w.heap.size + 1, 1, none⟩ (.int .i64 41) = v1
  rw [hV] at HF'
  have HF := HF'
  clear HF' hV
  obtain ⟨T4, hT4⟩ : ∃ T4 : Th, ({ t with pc := 41 } : Th) = T4 := ⟨_, rfl⟩
  obtain ⟨s4, hs4⟩ : ∃ s4 : Int, st + cn zs (ad t.cu 1) = s4 := ⟨_, rfl⟩
  have HFF := HF.out
  rw [hT4] at HFF
  rw [hs4] at HFF ⊢
  have HEQ := Lib.hid (show Ending.returned (.tuple #[.agg #[.int .i64 size, (.slice a2 Z2.length q2), .int .i64 s4], thV T4 (.slice ao n cap)]) = .returned (.tuple #[.agg #[.int .i64 size, (.slice a2 Z2.length q2), .int .i64 (st + ((swt ag t zs)).c)], thV ((swt ag t zs)).t (.slice ao n cap)]) by rw [← hs4, ← hT4, HSW.out])
  replace HF := Lib.hid HFF
  have HZQ := Lib.hid (show (swt ag t zs).zs = Z2 by rw [HSW.out])
  clear hT4 hs4 HFF
  have m := HF.out.m
  have m0 := m.c0
  have m1 := m.c1
  have m2 := m.c2
  have x := HF.out.x
  have c0 := x.c0
  have c1 := x.c1
  have c2 := x.c2
  have c3 := x.c3
  have c4 := x.c4
  have c5 := x.c5
  have c6 := x.c6
  have c7 := x.c7
  have c8 := x.c8
  have c9 := x.c9
  have c10 := x.c10
  have c11 := x.c11
  have c12 := x.c12
  have y := HF.out.y
  have y0 := y.c0
  have y1 := y.c1
  have y2 := y.c2
  have yf := y.f
  have z := HF.out.z
  have r0 := z.c0
  have r1 := z.c1
  have r2 := z.c2
  have r3 := z.c3
  have r4 := z.c4
  have r5 := z.c5
  have r6 := z.c6
  have r7 := z.c7
  have r8 := z.c8
  have r9 := z.c9
  have r10 := z.c10
  have r11 := z.c11
  have r12 := z.c12
  have zf := z.f
  have FIN := HF.out.fin
  clear m x y z
  go_region
  go_wp2
  change bodyPost _ _ _ _ _ (setT (setM v1 (w.heap.size + 1 + 1) (.int .i64 size) (.slice a2 Z2.length q2) (.int .i64 s4)) (w.heap.size + 1 + 1 + 1) T4 (.slice ao n cap)).drew
  generalize setT (setM v1 (w.heap.size + 1 + 1) (.int .i64 size) (.slice a2 Z2.length q2) (.int .i64 s4)) (w.heap.size + 1 + 1 + 1) T4 (.slice ao n cap) = wf at *
  obtain ⟨fm, fx, o', l', b'⟩ := FIN
  have gm : Boxed wf.drew (w.heap.size + 1 + 1) (.int .i64 size) (.slice a2 Z2.length q2) (.int .i64 s4) := fm
  have gx := fx.drew
  refine bodyPost_ret (v := .tuple #[.agg #[.int .i64 size, (.slice a2 Z2.length q2), .int .i64 s4], thV T4 (.slice ao n cap)]) (by simp [results, Try.results29, go_sem, thV, gm.c0, gm.c1, gm.c2, gx.c0, gx.c1, gx.c2, gx.c3, gx.c4, gx.c5, gx.c6, gx.c7, gx.c8, gx.c9, gx.c10, gx.c11, gx.c12]) rfl ?_
  refine ⟨_, HEQ.out, ?_⟩
  rw [HZQ.out]
  exact ⟨own_at o' (fun _ _ _ => rfl), l', b'.drew⟩

set_option maxRecDepth 100000 in
set_option maxHeartbeats 16000000 in
theorem step48 (h : w.ownsRow B 2 1 u zs.length (zs.map (Value.int .i64))) (hB : B ≤ w.heap.size) (hl : zs.length ≤ 1000) (ao : Option Addr) (n cap : Nat) (ag : Int) (hp : t.pc = 48) (k0 : 0 ≤ st) (k1 : st < 1000000) :
    Calls Try.prog 29 #[.agg #[.int .i64 size, u, .int .i64 st], .int .i64 ag, thV t (.slice ao n cap)] w (RQ w B u size (.slice ao n cap) (swt ag t zs) st) := by
  obtain ⟨au, cu, rfl⟩ := ownShape h
  rw [show thV t (.slice ao n cap) = .agg #[.int .i64 t.ti, .int .i64 t.pc, .int .i64 t.rc, .int .i64 t.sq, .int .i64 t.wo, .int .i64 t.lk, .int .i64 t.cu, .int .i64 t.pv, .int .i64 t.nt, .int .i64 t.mx, .int .i64 t.ps, .int .i64 t.rn, .slice ao n cap] from rfl]
  have HL := Lib.hid hl
  have HBB := Lib.hid hB
  have HSW := Lib.hid (show swt ag t zs = ⟨{ t with pc := 11 }, sto zs (0 : Int) 0, cn zs (0 : Int)⟩ by rw [swt48 ag t zs hp])
  have HPC := Lib.hid hp
  clear hp
  obtain ⟨W, hW⟩ : ∃ W, (((w.alloc (.cells #[.int .i64 size, .slice au zs.length cu, .int .i64 st] 39)).alloc (.cells #[.int .i64 t.ti, .int .i64 t.pc, .int .i64 t.rc, .int .i64 t.sq, .int .i64 t.wo, .int .i64 t.lk, .int .i64 t.cu, .int .i64 t.pv, .int .i64 t.nt, .int .i64 t.mx, .int .i64 t.ps, .int .i64 t.rn, .slice ao n cap] 25)).alloc (.cells #[.int .i64 0, .slice none 0 0, .int .i64 0] 39)).alloc (.cells #[.int .i64 0, .int .i64 0, .int .i64 0, .int .i64 0, .int .i64 0, .int .i64 0, .int .i64 0, .int .i64 0, .int .i64 0, .int .i64 0, .int .i64 0, .int .i64 0, .slice none 0 0] 25) = W := ⟨_, rfl⟩
  have HP := Lib.hid (PB.new h t (.slice ao n cap) W hW)
  have HW := Lib.hid hW
  clear hW h hl hB
  go_enter Try.func29, Try.ntmps29
  go_upto_region 1 with (fail)
  rw [HW.out]
  clear HW
  have m0 := HP.out.m.c0
  have m1 := HP.out.m.c1
  have m2 := HP.out.m.c2
  go_upto_region 2 with (fail)
  have HC := Lib.hid (SC.new HP.out)
  generalize hWA : W.alloc (.cells #[.int .i64 size, .slice au zs.length cu, .int .i64 st] 39) = WA
  have HM := Lib.hid (show Boxed WA w.heap.size (.int .i64 size) (.slice au zs.length cu) (.int .i64 st) by subst hWA; exact HP.out.m.alloc _)
  have HKB := Lib.hid (show Boxed WA W.heap.size (.int .i64 size) (.slice au zs.length cu) (.int .i64 st) by subst hWA; exact Boxed.new _ _ _ _)
  rw [hWA] at HC
  have HSZ := Lib.hid (show w.heap.size + 4 < WA.heap.size by subst hWA; have := HP.out.s; simp; omega)
  clear hWA m0 m1 m2 HP
  generalize W.heap.size = KK at *
  have hK := HC.out.e
  have hk1 : ¬ KK = w.heap.size + 1 := by omega
  have hk2 : ¬ KK = w.heap.size + 1 + 1 := by omega
  have hk3 : ¬ KK = w.heap.size + 1 + 1 + 1 := by omega
  have hk4 : ¬ w.heap.size + 1 = KK := by omega
  have hk5 : ¬ w.heap.size + 1 + 1 = KK := by omega
  have hk6 : ¬ w.heap.size + 1 + 1 + 1 = KK := by omega
  clear hK
  have x1 := HC.out.x.c1
  rw [HPC.out] at x1
  go_upto_region 27 with (fail)
  clear x1
  have m0 := HM.out.c0
  have m1 := HM.out.c1
  have m2 := HM.out.c2
  have x5 := HC.out.x.c5
  have x6 := HC.out.x.c6
  have x7 := HC.out.x.c7
  have kf := HKB.out.f
  have q0 := HKB.out.c0
  have q1 := HKB.out.c1
  have q2' := HKB.out.c2
  have C := refStoreD (size := size) (st := st) HC.out.o (Nat.le_trans HBB.out HC.out.b.size) HL.out (0 : Int) 0 k0 k1
  have HCC := Lib.hid C
  clear C
  go_wp2_with fail
  with_reducible refine HCC.out.mono ?_
  clear HCC m0 m1 m2 x5 x6 x7 kf q0 q1 q2'
  rintro e w2 ⟨u', rfl, l2⟩
  obtain ⟨a2, q2, rfl⟩ := ownShape l2.1
  have HC2 := Lib.hid (HC.out.call (Nat.le_of_lt (by have := HSZ.out; omega)) l2)
  have HKB2 := Lib.hid (HKB.out.keep l2.2.2)
  clear l2 HC HKB
  obtain ⟨Z2, hZ2⟩ : ∃ Z, sto zs (0 : Int) 0 = Z := ⟨_, rfl⟩
  rw [hZ2] at HC2 HSW ⊢
  clear hZ2
  have kf := HKB2.out.f
  have q0 := HKB2.out.c0
  have q1 := HKB2.out.c1
  have q2' := HKB2.out.c2
  go_upto_region 28 with (fail)
  have HF := Lib.hid (HC2.out.setK (st + cn zs (0 : Int)))
  clear kf q0 q1 q2' HC2 HKB2
  obtain ⟨v0, hv0⟩ : ∃ v, v = setM w2 KK (.int .i64 size) (.slice a2 Z2.length q2) (.int .i64 (st + cn zs (0 : Int))) := ⟨_, rfl⟩
  rw [← hv0] at HF
  change Code.wp _ _ _ _ (setM w2 KK (.int .i64 size) (.slice a2 Z2.length q2) (.int .i64 (st + cn zs (0 : Int))))
  rw [← hv0]
  clear hv0
  have yy := HF.out.x.c1
  have yf := HF.out.x.f
  go_upto_region 29 with (fail)
  have HF' := Lib.hid (HF.out.set (HF.out.x.s1 11))
  clear HF yy yf
  generalize hV : v0.setCell ⟨w.heap.size + 1, 1, none⟩ (.int .i64 11) = v1
  rw [hV] at HF'
  have HF := HF'
  clear HF' hV
  obtain ⟨T4, hT4⟩ : ∃ T4 : Th, ({ t with pc := 11 } : Th) = T4 := ⟨_, rfl⟩
  obtain ⟨s4, hs4⟩ : ∃ s4 : Int, st + cn zs (0 : Int) = s4 := ⟨_, rfl⟩
  have HFF := HF.out
  rw [hT4] at HFF
  rw [hs4] at HFF ⊢
  have HEQ := Lib.hid (show Ending.returned (.tuple #[.agg #[.int .i64 size, (.slice a2 Z2.length q2), .int .i64 s4], thV T4 (.slice ao n cap)]) = .returned (.tuple #[.agg #[.int .i64 size, (.slice a2 Z2.length q2), .int .i64 (st + ((swt ag t zs)).c)], thV ((swt ag t zs)).t (.slice ao n cap)]) by rw [← hs4, ← hT4, HSW.out])
  replace HF := Lib.hid HFF
  have HZQ := Lib.hid (show (swt ag t zs).zs = Z2 by rw [HSW.out])
  clear hT4 hs4 HFF
  have m := HF.out.m
  have m0 := m.c0
  have m1 := m.c1
  have m2 := m.c2
  have x := HF.out.x
  have c0 := x.c0
  have c1 := x.c1
  have c2 := x.c2
  have c3 := x.c3
  have c4 := x.c4
  have c5 := x.c5
  have c6 := x.c6
  have c7 := x.c7
  have c8 := x.c8
  have c9 := x.c9
  have c10 := x.c10
  have c11 := x.c11
  have c12 := x.c12
  have y := HF.out.y
  have y0 := y.c0
  have y1 := y.c1
  have y2 := y.c2
  have yf := y.f
  have z := HF.out.z
  have r0 := z.c0
  have r1 := z.c1
  have r2 := z.c2
  have r3 := z.c3
  have r4 := z.c4
  have r5 := z.c5
  have r6 := z.c6
  have r7 := z.c7
  have r8 := z.c8
  have r9 := z.c9
  have r10 := z.c10
  have r11 := z.c11
  have r12 := z.c12
  have zf := z.f
  have FIN := HF.out.fin
  clear m x y z
  go_region
  go_wp2
  change bodyPost _ _ _ _ _ (setT (setM v1 (w.heap.size + 1 + 1) (.int .i64 size) (.slice a2 Z2.length q2) (.int .i64 s4)) (w.heap.size + 1 + 1 + 1) T4 (.slice ao n cap)).drew
  generalize setT (setM v1 (w.heap.size + 1 + 1) (.int .i64 size) (.slice a2 Z2.length q2) (.int .i64 s4)) (w.heap.size + 1 + 1 + 1) T4 (.slice ao n cap) = wf at *
  obtain ⟨fm, fx, o', l', b'⟩ := FIN
  have gm : Boxed wf.drew (w.heap.size + 1 + 1) (.int .i64 size) (.slice a2 Z2.length q2) (.int .i64 s4) := fm
  have gx := fx.drew
  refine bodyPost_ret (v := .tuple #[.agg #[.int .i64 size, (.slice a2 Z2.length q2), .int .i64 s4], thV T4 (.slice ao n cap)]) (by simp [results, Try.results29, go_sem, thV, gm.c0, gm.c1, gm.c2, gx.c0, gx.c1, gx.c2, gx.c3, gx.c4, gx.c5, gx.c6, gx.c7, gx.c8, gx.c9, gx.c10, gx.c11, gx.c12]) rfl ?_
  refine ⟨_, HEQ.out, ?_⟩
  rw [HZQ.out]
  exact ⟨own_at o' (fun _ _ _ => rfl), l', b'.drew⟩
end

end Go.Proofs.Ytfnjbbokbdddpaa.M2
namespace Go.Proofs.Ytfnjbbokbdddpaa.M2
open Go.RowKit

section
variable {w : World} {B : Nat} {u : Value} {size : Int} {zs : List Int} {st : Int} {t : Th}

set_option maxRecDepth 100000 in
set_option maxHeartbeats 16000000 in
theorem stepNo (h : w.ownsRow B 2 1 u zs.length (zs.map (Value.int .i64))) (hB : B ≤ w.heap.size) (hl : zs.length ≤ 1000) (ao : Option Addr) (n cap : Nat) (ag : Int) (hp : ¬ (40 ≤ t.pc ∧ t.pc ≤ 48)) (_ : 0 ≤ st) (_ : st < 1000000) :
    Calls Try.prog 29 #[.agg #[.int .i64 size, u, .int .i64 st], .int .i64 ag, thV t (.slice ao n cap)] w (RQ w B u size (.slice ao n cap) (swt ag t zs) st) := by
  obtain ⟨au, cu, rfl⟩ := ownShape h
  rw [show thV t (.slice ao n cap) = .agg #[.int .i64 t.ti, .int .i64 t.pc, .int .i64 t.rc, .int .i64 t.sq, .int .i64 t.wo, .int .i64 t.lk, .int .i64 t.cu, .int .i64 t.pv, .int .i64 t.nt, .int .i64 t.mx, .int .i64 t.ps, .int .i64 t.rn, .slice ao n cap] from rfl]
  have HL := Lib.hid hl
  have HBB := Lib.hid hB
  have HSW := Lib.hid (show swt ag t zs = ⟨t, zs, 0⟩ from swt0 ag t zs hp)
  have HPC := Lib.hid hp
  clear hp
  obtain ⟨W, hW⟩ : ∃ W, (((w.alloc (.cells #[.int .i64 size, .slice au zs.length cu, .int .i64 st] 39)).alloc (.cells #[.int .i64 t.ti, .int .i64 t.pc, .int .i64 t.rc, .int .i64 t.sq, .int .i64 t.wo, .int .i64 t.lk, .int .i64 t.cu, .int .i64 t.pv, .int .i64 t.nt, .int .i64 t.mx, .int .i64 t.ps, .int .i64 t.rn, .slice ao n cap] 25)).alloc (.cells #[.int .i64 0, .slice none 0 0, .int .i64 0] 39)).alloc (.cells #[.int .i64 0, .int .i64 0, .int .i64 0, .int .i64 0, .int .i64 0, .int .i64 0, .int .i64 0, .int .i64 0, .int .i64 0, .int .i64 0, .int .i64 0, .int .i64 0, .slice none 0 0] 25) = W := ⟨_, rfl⟩
  have HP := Lib.hid (PB.new h t (.slice ao n cap) W hW)
  have HW := Lib.hid hW
  clear hW h hl hB
  go_enter Try.func29, Try.ntmps29
  go_upto_region 1 with (fail)
  rw [HW.out]
  clear HW
  have m0 := HP.out.m.c0
  have m1 := HP.out.m.c1
  have m2 := HP.out.m.c2
  go_upto_region 2 with (fail)
  have HC := Lib.hid (SC.new HP.out)
  generalize hWA : W.alloc (.cells #[.int .i64 size, .slice au zs.length cu, .int .i64 st] 39) = WA
  have HM := Lib.hid (show Boxed WA w.heap.size (.int .i64 size) (.slice au zs.length cu) (.int .i64 st) by subst hWA; exact HP.out.m.alloc _)
  have HKB := Lib.hid (show Boxed WA W.heap.size (.int .i64 size) (.slice au zs.length cu) (.int .i64 st) by subst hWA; exact Boxed.new _ _ _ _)
  rw [hWA] at HC
  have HSZ := Lib.hid (show w.heap.size + 4 < WA.heap.size by subst hWA; have := HP.out.s; simp; omega)
  clear hWA m0 m1 m2 HP
  generalize W.heap.size = KK at *
  have hK := HC.out.e
  have hk1 : ¬ KK = w.heap.size + 1 := by omega
  have hk2 : ¬ KK = w.heap.size + 1 + 1 := by omega
  have hk3 : ¬ KK = w.heap.size + 1 + 1 + 1 := by omega
  have hk4 : ¬ w.heap.size + 1 = KK := by omega
  have hk5 : ¬ w.heap.size + 1 + 1 = KK := by omega
  have hk6 : ¬ w.heap.size + 1 + 1 + 1 = KK := by omega
  clear hK
  have x1 := HC.out.x.c1
  obtain ⟨y, hy⟩ : ∃ y, t.pc = y := ⟨_, rfl⟩
  rw [hy] at x1
  have hq := HPC.out
  rw [hy] at hq
  have e40 : (y == 40) = false := by simpa using (show ¬ y = 40 by omega)
  have e41 : (y == 41) = false := by simpa using (show ¬ y = 41 by omega)
  have e42 : (y == 42) = false := by simpa using (show ¬ y = 42 by omega)
  have e43 : (y == 43) = false := by simpa using (show ¬ y = 43 by omega)
  have e44 : (y == 44) = false := by simpa using (show ¬ y = 44 by omega)
  have e45 : (y == 45) = false := by simpa using (show ¬ y = 45 by omega)
  have e46 : (y == 46) = false := by simpa using (show ¬ y = 46 by omega)
  have e47 : (y == 47) = false := by simpa using (show ¬ y = 47 by omega)
  have e48 : (y == 48) = false := by simpa using (show ¬ y = 48 by omega)
  clear hy
  clear hq
  go_upto_region 29 with (fail)
  clear x1 e40 e41 e42 e43 e44 e45 e46 e47 e48
  have HF := Lib.hid (HC.out.pf HKB.out)
  clear HC HKB HM
  have HEQ := Lib.hid (show Ending.returned (.tuple #[.agg #[.int .i64 size, .slice au zs.length cu, .int .i64 st], thV t (.slice ao n cap)]) = .returned (.tuple #[.agg #[.int .i64 size, .slice au zs.length cu, .int .i64 (st + (swt ag t zs).c)], thV (swt ag t zs).t (.slice ao n cap)]) by rw [HSW.out, Int.add_zero])
  have HZQ := Lib.hid (show (swt ag t zs).zs = zs by rw [HSW.out])
  have m := HF.out.m
  have m0 := m.c0
  have m1 := m.c1
  have m2 := m.c2
  have x := HF.out.x
  have c0 := x.c0
  have c1 := x.c1
  have c2 := x.c2
  have c3 := x.c3
  have c4 := x.c4
  have c5 := x.c5
  have c6 := x.c6
  have c7 := x.c7
  have c8 := x.c8
  have c9 := x.c9
  have c10 := x.c10
  have c11 := x.c11
  have c12 := x.c12
  have y := HF.out.y
  have y0 := y.c0
  have y1 := y.c1
  have y2 := y.c2
  have yf := y.f
  have z := HF.out.z
  have r0 := z.c0
  have r1 := z.c1
  have r2 := z.c2
  have r3 := z.c3
  have r4 := z.c4
  have r5 := z.c5
  have r6 := z.c6
  have r7 := z.c7
  have r8 := z.c8
  have r9 := z.c9
  have r10 := z.c10
  have r11 := z.c11
  have r12 := z.c12
  have zf := z.f
  have FIN := HF.out.fin
  clear m x y z
  go_region
  go_wp2
  change bodyPost _ _ _ _ _ (setT (setM WA (w.heap.size + 1 + 1) (.int .i64 size) (.slice au zs.length cu) (.int .i64 st)) (w.heap.size + 1 + 1 + 1) t (.slice ao n cap)).drew
  generalize setT (setM WA (w.heap.size + 1 + 1) (.int .i64 size) (.slice au zs.length cu) (.int .i64 st)) (w.heap.size + 1 + 1 + 1) t (.slice ao n cap) = wf at *
  obtain ⟨fm, fx, o', l', b'⟩ := FIN
  have gm : Boxed wf.drew (w.heap.size + 1 + 1) (.int .i64 size) (.slice au zs.length cu) (.int .i64 st) := fm
  have gx := fx.drew
  refine bodyPost_ret (v := .tuple #[.agg #[.int .i64 size, (.slice au zs.length cu), .int .i64 st], thV t (.slice ao n cap)]) (by simp [results, Try.results29, go_sem, thV, gm.c0, gm.c1, gm.c2, gx.c0, gx.c1, gx.c2, gx.c3, gx.c4, gx.c5, gx.c6, gx.c7, gx.c8, gx.c9, gx.c10, gx.c11, gx.c12]) rfl ?_
  refine ⟨_, HEQ.out, ?_⟩
  rw [HZQ.out]
  exact ⟨own_at o' (fun _ _ _ => rfl), l', b'.drew⟩
end

end Go.Proofs.Ytfnjbbokbdddpaa.M2
namespace Go.Proofs.Ytfnjbbokbdddpaa.M2
open Go.RowKit

section
variable {w : World} {B : Nat} {u : Value} {size : Int} {zs : List Int} {st : Int} {t : Th}

set_option maxRecDepth 100000 in
set_option maxHeartbeats 16000000 in
theorem step40 (h : w.ownsRow B 2 1 u zs.length (zs.map (Value.int .i64))) (hB : B ≤ w.heap.size) (hl : zs.length ≤ 1000) (ao : Option Addr) (n cap : Nat) (ag : Int) (hp : t.pc = 40) (k0 : 0 ≤ st) (k1 : st < 1000000) :
    Calls Try.prog 29 #[.agg #[.int .i64 size, u, .int .i64 st], .int .i64 ag, thV t (.slice ao n cap)] w (RQ w B u size (.slice ao n cap) (swt ag t zs) st) := by
  obtain ⟨au, cu, rfl⟩ := ownShape h
  rw [show thV t (.slice ao n cap) = .agg #[.int .i64 t.ti, .int .i64 t.pc, .int .i64 t.rc, .int .i64 t.sq, .int .i64 t.wo, .int .i64 t.lk, .int .i64 t.cu, .int .i64 t.pv, .int .i64 t.nt, .int .i64 t.mx, .int .i64 t.ps, .int .i64 t.rn, .slice ao n cap] from rfl]
  have HL := Lib.hid hl
  have HBB := Lib.hid hB
  obtain ⟨S, hS⟩ : ∃ S, swt ag t zs = S := ⟨_, rfl⟩
  have HSW := Lib.hid hS
  have hp4 : 40 ≤ t.pc ∧ t.pc ≤ 43 := by omega
  have C0 := fun (W : World) (h : W.ownsRow B 2 1 (.slice au zs.length cu) zs.length (zs.map (Value.int .i64))) (hb : B ≤ W.heap.size) => refSeek (size := size) (st := st) h hb hl ao n cap (t := t) ag hp4 k0 k1
  rw [hS] at C0
  have HC0 := Lib.hid C0
  clear C0 hS hp4
  have HPC := Lib.hid hp
  clear hp
  obtain ⟨W, hW⟩ : ∃ W, (((w.alloc (.cells #[.int .i64 size, .slice au zs.length cu, .int .i64 st] 39)).alloc (.cells #[.int .i64 t.ti, .int .i64 t.pc, .int .i64 t.rc, .int .i64 t.sq, .int .i64 t.wo, .int .i64 t.lk, .int .i64 t.cu, .int .i64 t.pv, .int .i64 t.nt, .int .i64 t.mx, .int .i64 t.ps, .int .i64 t.rn, .slice ao n cap] 25)).alloc (.cells #[.int .i64 0, .slice none 0 0, .int .i64 0] 39)).alloc (.cells #[.int .i64 0, .int .i64 0, .int .i64 0, .int .i64 0, .int .i64 0, .int .i64 0, .int .i64 0, .int .i64 0, .int .i64 0, .int .i64 0, .int .i64 0, .int .i64 0, .slice none 0 0] 25) = W := ⟨_, rfl⟩
  have HP := Lib.hid (PB.new h t (.slice ao n cap) W hW)
  have HW := Lib.hid hW
  clear hW h hl hB
  go_enter Try.func29, Try.ntmps29
  go_upto_region 1 with (fail)
  rw [HW.out]
  clear HW
  have m0 := HP.out.m.c0
  have m1 := HP.out.m.c1
  have m2 := HP.out.m.c2
  go_upto_region 2 with (fail)
  have HC := Lib.hid (SC.new HP.out)
  generalize hWA : W.alloc (.cells #[.int .i64 size, .slice au zs.length cu, .int .i64 st] 39) = WA
  have HM := Lib.hid (show Boxed WA w.heap.size (.int .i64 size) (.slice au zs.length cu) (.int .i64 st) by subst hWA; exact HP.out.m.alloc _)
  have HKB := Lib.hid (show Boxed WA W.heap.size (.int .i64 size) (.slice au zs.length cu) (.int .i64 st) by subst hWA; exact Boxed.new _ _ _ _)
  rw [hWA] at HC
  have HSZ := Lib.hid (show w.heap.size + 4 < WA.heap.size by subst hWA; have := HP.out.s; simp; omega)
  clear hWA m0 m1 m2 HP
  generalize W.heap.size = KK at *
  have hK := HC.out.e
  have hk1 : ¬ KK = w.heap.size + 1 := by omega
  have hk2 : ¬ KK = w.heap.size + 1 + 1 := by omega
  have hk3 : ¬ KK = w.heap.size + 1 + 1 + 1 := by omega
  have hk4 : ¬ w.heap.size + 1 = KK := by omega
  have hk5 : ¬ w.heap.size + 1 + 1 = KK := by omega
  have hk6 : ¬ w.heap.size + 1 + 1 + 1 = KK := by omega
  clear hK
  have x1 := HC.out.x.c1
  rw [HPC.out] at x1
  go_upto_region 7 with (fail)
  clear x1
  have m0 := HM.out.c0
  have m1 := HM.out.c1
  have m2 := HM.out.c2
  have x := HC.out.x
  have c0 := x.c0
  have c1 := x.c1
  have c2 := x.c2
  have c3 := x.c3
  have c4 := x.c4
  have c5 := x.c5
  have c6 := x.c6
  have c7 := x.c7
  have c8 := x.c8
  have c9 := x.c9
  have c10 := x.c10
  have c11 := x.c11
  have c12 := x.c12
  have C := HC0.out _ HC.out.o (Nat.le_trans HBB.out HC.out.b.size)
  rw [show thV t (.slice ao n cap) = .agg #[.int .i64 t.ti, .int .i64 t.pc, .int .i64 t.rc, .int .i64 t.sq, .int .i64 t.wo, .int .i64 t.lk, .int .i64 t.cu, .int .i64 t.pv, .int .i64 t.nt, .int .i64 t.mx, .int .i64 t.ps, .int .i64 t.rn, .slice ao n cap] from rfl] at C
  have HCC := Lib.hid C
  clear x C HC0
  go_wp2_with fail
  with_reducible refine HCC.out.mono ?_
  clear HCC m0 m1 m2 c0 c1 c2 c3 c4 c5 c6 c7 c8 c9 c10 c11 c12
  rintro e w2 ⟨u', rfl, l2⟩
  obtain ⟨a2, q2, rfl⟩ := ownShape l2.1
  rw [show thV S.t (.slice ao n cap) = .agg #[.int .i64 S.t.ti, .int .i64 S.t.pc, .int .i64 S.t.rc, .int .i64 S.t.sq, .int .i64 S.t.wo, .int .i64 S.t.lk, .int .i64 S.t.cu, .int .i64 S.t.pv, .int .i64 S.t.nt, .int .i64 S.t.mx, .int .i64 S.t.ps, .int .i64 S.t.rn, .slice ao n cap] from rfl]
  go_upto_region 8 with (fail)
  generalize hW3 : (w2.alloc (.cells #[.int .i64 size, .slice a2 S.zs.length q2, .int .i64 (st + S.c)] 39)).alloc (.cells #[.int .i64 S.t.ti, .int .i64 S.t.pc, .int .i64 S.t.rc, .int .i64 S.t.sq, .int .i64 S.t.wo, .int .i64 S.t.lk, .int .i64 S.t.cu, .int .i64 S.t.pv, .int .i64 S.t.nt, .int .i64 S.t.mx, .int .i64 S.t.ps, .int .i64 S.t.rn, .slice ao n cap] 25) = w3
  have ff : Below w2.heap.size w2 w3 := by subst hW3; exact ((Below.refl _ _).alloc (Nat.le_refl _) _).alloc (by simp) _
  have HX1 := Lib.hid (show Boxed w3 w2.heap.size (.int .i64 size) (.slice a2 S.zs.length q2) (.int .i64 (st + S.c)) by subst hW3; exact (Boxed.new _ _ _ _).alloc _)
  have HX2 := Lib.hid (show TX w3 (w2.heap.size + 1) S.t (.slice ao n cap) by
    subst hW3
    have := TX.new (w2.alloc (.cells #[.int .i64 size, .slice a2 S.zs.length q2, .int .i64 (st + S.c)] 39)) S.t (.slice ao n cap)
    rw [show (w2.alloc (.cells #[.int .i64 size, .slice a2 S.zs.length q2, .int .i64 (st + S.c)] 39)).heap.size = w2.heap.size + 1 by simp] at this
    exact this)
  have HC2 := Lib.hid ((HC.out.call (Nat.le_of_lt (by have := HSZ.out; omega)) l2).fresh ff)
  have hKK := HC.out.e
  have hNN : w.heap.size + 5 ≤ w2.heap.size := by have := l2.2.2.size; have := HSZ.out; omega
  clear hW3 l2 HC HKB HM ff
  generalize w2.heap.size = NN at *
  have hn1 : ¬ NN + 1 = w.heap.size + 1 + 1 := by omega
  have hn2 : ¬ w.heap.size + 1 + 1 = NN + 1 := by omega
  have hn3 : ¬ NN + 1 = w.heap.size + 1 + 1 + 1 := by omega
  have hn4 : ¬ w.heap.size + 1 + 1 + 1 = NN + 1 := by omega
  have hn5 : ¬ NN = w.heap.size + 1 + 1 := by omega
  have hn6 : ¬ NN = w.heap.size + 1 + 1 + 1 := by omega
  have hn7 : ¬ NN = KK := by omega
  have hn8 : ¬ NN + 1 = KK := by omega
  have hn9 : ¬ NN = w.heap.size + 1 := by omega
  have hn10 : ¬ NN + 1 = w.heap.size + 1 := by omega
  have HF := Lib.hid (HC2.out.pf2 HX1.out HX2.out (by omega))
  clear hNN hKK HC2 HX1 HX2
  obtain ⟨T4, hT4⟩ : ∃ T4 : Th, (S.t : Th) = T4 := ⟨_, rfl⟩
  obtain ⟨s4, hs4⟩ : ∃ s4 : Int, st + S.c = s4 := ⟨_, rfl⟩
  have HFF := HF.out
  rw [hT4] at HFF
  rw [hs4] at HFF ⊢
  have HEQ := Lib.hid (show Ending.returned (.tuple #[.agg #[.int .i64 size, (.slice a2 S.zs.length q2), .int .i64 s4], thV T4 (.slice ao n cap)]) = .returned (.tuple #[.agg #[.int .i64 size, (.slice a2 S.zs.length q2), .int .i64 (st + ((swt ag t zs)).c)], thV ((swt ag t zs)).t (.slice ao n cap)]) by rw [← hs4, ← hT4, HSW.out])
  replace HF := Lib.hid HFF
  have HZQ := Lib.hid (show (swt ag t zs).zs = S.zs by rw [HSW.out])
  clear hT4 hs4 HFF
  have m := HF.out.m
  have m0 := m.c0
  have m1 := m.c1
  have m2 := m.c2
  have x := HF.out.x
  have c0 := x.c0
  have c1 := x.c1
  have c2 := x.c2
  have c3 := x.c3
  have c4 := x.c4
  have c5 := x.c5
  have c6 := x.c6
  have c7 := x.c7
  have c8 := x.c8
  have c9 := x.c9
  have c10 := x.c10
  have c11 := x.c11
  have c12 := x.c12
  have y := HF.out.y
  have y0 := y.c0
  have y1 := y.c1
  have y2 := y.c2
  have yf := y.f
  have z := HF.out.z
  have r0 := z.c0
  have r1 := z.c1
  have r2 := z.c2
  have r3 := z.c3
  have r4 := z.c4
  have r5 := z.c5
  have r6 := z.c6
  have r7 := z.c7
  have r8 := z.c8
  have r9 := z.c9
  have r10 := z.c10
  have r11 := z.c11
  have r12 := z.c12
  have zf := z.f
  have FIN := HF.out.fin
  clear m x y z
  go_region
  go_wp2
  change bodyPost _ _ _ _ _ (setT (setM w3 (w.heap.size + 1 + 1) (.int .i64 size) (.slice a2 S.zs.length q2) (.int .i64 s4)) (w.heap.size + 1 + 1 + 1) T4 (.slice ao n cap)).drew
  generalize setT (setM w3 (w.heap.size + 1 + 1) (.int .i64 size) (.slice a2 S.zs.length q2) (.int .i64 s4)) (w.heap.size + 1 + 1 + 1) T4 (.slice ao n cap) = wf at *
  obtain ⟨fm, fx, o', l', b'⟩ := FIN
  have gm : Boxed wf.drew (w.heap.size + 1 + 1) (.int .i64 size) (.slice a2 S.zs.length q2) (.int .i64 s4) := fm
  have gx := fx.drew
  refine bodyPost_ret (v := .tuple #[.agg #[.int .i64 size, (.slice a2 S.zs.length q2), .int .i64 s4], thV T4 (.slice ao n cap)]) (by simp [results, Try.results29, go_sem, thV, gm.c0, gm.c1, gm.c2, gx.c0, gx.c1, gx.c2, gx.c3, gx.c4, gx.c5, gx.c6, gx.c7, gx.c8, gx.c9, gx.c10, gx.c11, gx.c12]) rfl ?_
  refine ⟨_, HEQ.out, ?_⟩
  rw [HZQ.out]
  exact ⟨own_at o' (fun _ _ _ => rfl), l', b'.drew⟩

set_option maxRecDepth 100000 in
set_option maxHeartbeats 16000000 in
theorem step41 (h : w.ownsRow B 2 1 u zs.length (zs.map (Value.int .i64))) (hB : B ≤ w.heap.size) (hl : zs.length ≤ 1000) (ao : Option Addr) (n cap : Nat) (ag : Int) (hp : t.pc = 41) (k0 : 0 ≤ st) (k1 : st < 1000000) :
    Calls Try.prog 29 #[.agg #[.int .i64 size, u, .int .i64 st], .int .i64 ag, thV t (.slice ao n cap)] w (RQ w B u size (.slice ao n cap) (swt ag t zs) st) := by
  obtain ⟨au, cu, rfl⟩ := ownShape h
  rw [show thV t (.slice ao n cap) = .agg #[.int .i64 t.ti, .int .i64 t.pc, .int .i64 t.rc, .int .i64 t.sq, .int .i64 t.wo, .int .i64 t.lk, .int .i64 t.cu, .int .i64 t.pv, .int .i64 t.nt, .int .i64 t.mx, .int .i64 t.ps, .int .i64 t.rn, .slice ao n cap] from rfl]
  have HL := Lib.hid hl
  have HBB := Lib.hid hB
  obtain ⟨S, hS⟩ : ∃ S, swt ag t zs = S := ⟨_, rfl⟩
  have HSW := Lib.hid hS
  have hp4 : 40 ≤ t.pc ∧ t.pc ≤ 43 := by omega
  have C0 := fun (W : World) (h : W.ownsRow B 2 1 (.slice au zs.length cu) zs.length (zs.map (Value.int .i64))) (hb : B ≤ W.heap.size) => refSeek (size := size) (st := st) h hb hl ao n cap (t := t) ag hp4 k0 k1
  rw [hS] at C0
  have HC0 := Lib.hid C0
  clear C0 hS hp4
  have HPC := Lib.hid hp
  clear hp
  obtain ⟨W, hW⟩ : ∃ W, (((w.alloc (.cells #[.int .i64 size, .slice au zs.length cu, .int .i64 st] 39)).alloc (.cells #[.int .i64 t.ti, .int .i64 t.pc, .int .i64 t.rc, .int .i64 t.sq, .int .i64 t.wo, .int .i64 t.lk, .int .i64 t.cu, .int .i64 t.pv, .int .i64 t.nt, .int .i64 t.mx, .int .i64 t.ps, .int .i64 t.rn, .slice ao n cap] 25)).alloc (.cells #[.int .i64 0, .slice none 0 0, .int .i64 0] 39)).alloc (.cells #[.int .i64 0, .int .i64 0, .int .i64 0, .int .i64 0, .int .i64 0, .int .i64 0, .int .i64 0, .int .i64 0, .int .i64 0, .int .i64 0, .int .i64 0, .int .i64 0, .slice none 0 0] 25) = W := ⟨_, rfl⟩
  have HP := Lib.hid (PB.new h t (.slice ao n cap) W hW)
  have HW := Lib.hid hW
  clear hW h hl hB
  go_enter Try.func29, Try.ntmps29
  go_upto_region 1 with (fail)
  rw [HW.out]
  clear HW
  have m0 := HP.out.m.c0
  have m1 := HP.out.m.c1
  have m2 := HP.out.m.c2
  go_upto_region 2 with (fail)
  have HC := Lib.hid (SC.new HP.out)
  generalize hWA : W.alloc (.cells #[.int .i64 size, .slice au zs.length cu, .int .i64 st] 39) = WA
  have HM := Lib.hid (show Boxed WA w.heap.size (.int .i64 size) (.slice au zs.length cu) (.int .i64 st) by subst hWA; exact HP.out.m.alloc _)
  have HKB := Lib.hid (show Boxed WA W.heap.size (.int .i64 size) (.slice au zs.length cu) (.int .i64 st) by subst hWA; exact Boxed.new _ _ _ _)
  rw [hWA] at HC
  have HSZ := Lib.hid (show w.heap.size + 4 < WA.heap.size by subst hWA; have := HP.out.s; simp; omega)
  clear hWA m0 m1 m2 HP
  generalize W.heap.size = KK at *
  have hK := HC.out.e
  have hk1 : ¬ KK = w.heap.size + 1 := by omega
  have hk2 : ¬ KK = w.heap.size + 1 + 1 := by omega
  have hk3 : ¬ KK = w.heap.size + 1 + 1 + 1 := by omega
  have hk4 : ¬ w.heap.size + 1 = KK := by omega
  have hk5 : ¬ w.heap.size + 1 + 1 = KK := by omega
  have hk6 : ¬ w.heap.size + 1 + 1 + 1 = KK := by omega
  clear hK
  have x1 := HC.out.x.c1
  rw [HPC.out] at x1
  go_upto_region 7 with (fail)
  clear x1
  have m0 := HM.out.c0
  have m1 := HM.out.c1
  have m2 := HM.out.c2
  have x := HC.out.x
  have c0 := x.c0
  have c1 := x.c1
  have c2 := x.c2
  have c3 := x.c3
  have c4 := x.c4
  have c5 := x.c5
  have c6 := x.c6
  have c7 := x.c7
  have c8 := x.c8
  have c9 := x.c9
  have c10 := x.c10
  have c11 := x.c11
  have c12 := x.c12
  have C := HC0.out _ HC.out.o (Nat.le_trans HBB.out HC.out.b.size)
  rw [show thV t (.slice ao n cap) = .agg #[.int .i64 t.ti, .int .i64 t.pc, .int .i64 t.rc, .int .i64 t.sq, .int .i64 t.wo, .int .i64 t.lk, .int .i64 t.cu, .int .i64 t.pv, .int .i64 t.nt, .int .i64 t.mx, .int .i64 t.ps, .int .i64 t.rn, .slice ao n cap] from rfl] at C
  have HCC := Lib.hid C
  clear x C HC0
  go_wp2_with fail
  with_reducible refine HCC.out.mono ?_
  clear HCC m0 m1 m2 c0 c1 c2 c3 c4 c5 c6 c7 c8 c9 c10 c11 c12
  rintro e w2 ⟨u', rfl, l2⟩
  obtain ⟨a2, q2, rfl⟩ := ownShape l2.1
  rw [show thV S.t (.slice ao n cap) = .agg #[.int .i64 S.t.ti, .int .i64 S.t.pc, .int .i64 S.t.rc, .int .i64 S.t.sq, .int .i64 S.t.wo, .int .i64 S.t.lk, .int .i64 S.t.cu, .int .i64 S.t.pv, .int .i64 S.t.nt, .int .i64 S.t.mx, .int .i64 S.t.ps, .int .i64 S.t.rn, .slice ao n cap] from rfl]
  go_upto_region 8 with (fail)
  generalize hW3 : (w2.alloc (.cells #[.int .i64 size, .slice a2 S.zs.length q2, .int .i64 (st + S.c)] 39)).alloc (.cells #[.int .i64 S.t.ti, .int .i64 S.t.pc, .int .i64 S.t.rc, .int .i64 S.t.sq, .int .i64 S.t.wo, .int .i64 S.t.lk, .int .i64 S.t.cu, .int .i64 S.t.pv, .int .i64 S.t.nt, .int .i64 S.t.mx, .int .i64 S.t.ps, .int .i64 S.t.rn, .slice ao n cap] 25) = w3
  have ff : Below w2.heap.size w2 w3 := by subst hW3; exact ((Below.refl _ _).alloc (Nat.le_refl _) _).alloc (by simp) _
  have HX1 := Lib.hid (show Boxed w3 w2.heap.size (.int .i64 size) (.slice a2 S.zs.length q2) (.int .i64 (st + S.c)) by subst hW3; exact (Boxed.new _ _ _ _).alloc _)
  have HX2 := Lib.hid (show TX w3 (w2.heap.size + 1) S.t (.slice ao n cap) by
    subst hW3
    have := TX.new (w2.alloc (.cells #[.int .i64 size, .slice a2 S.zs.length q2, .int .i64 (st + S.c)] 39)) S.t (.slice ao n cap)
    rw [show (w2.alloc (.cells #[.int .i64 size, .slice a2 S.zs.length q2, .int .i64 (st + S.c)] 39)).heap.size = w2.heap.size + 1 by simp] at this
    exact this)
  have HC2 := Lib.hid ((HC.out.call (Nat.le_of_lt (by have := HSZ.out; omega)) l2).fresh ff)
  have hKK := HC.out.e
  have hNN : w.heap.size + 5 ≤ w2.heap.size := by have := l2.2.2.size; have := HSZ.out; omega
  clear hW3 l2 HC HKB HM ff
  generalize w2.heap.size = NN at *
  have hn1 : ¬ NN + 1 = w.heap.size + 1 + 1 := by omega
  have hn2 : ¬ w.heap.size + 1 + 1 = NN + 1 := by omega
  have hn3 : ¬ NN + 1 = w.heap.size + 1 + 1 + 1 := by omega
  have hn4 : ¬ w.heap.size + 1 + 1 + 1 = NN + 1 := by omega
  have hn5 : ¬ NN = w.heap.size + 1 + 1 := by omega
  have hn6 : ¬ NN = w.heap.size + 1 + 1 + 1 := by omega
  have hn7 : ¬ NN = KK := by omega
  have hn8 : ¬ NN + 1 = KK := by omega
  have hn9 : ¬ NN = w.heap.size + 1 := by omega
  have hn10 : ¬ NN + 1 = w.heap.size + 1 := by omega
  have HF := Lib.hid (HC2.out.pf2 HX1.out HX2.out (by omega))
  clear hNN hKK HC2 HX1 HX2
  obtain ⟨T4, hT4⟩ : ∃ T4 : Th, (S.t : Th) = T4 := ⟨_, rfl⟩
  obtain ⟨s4, hs4⟩ : ∃ s4 : Int, st + S.c = s4 := ⟨_, rfl⟩
  have HFF := HF.out
  rw [hT4] at HFF
  rw [hs4] at HFF ⊢
  have HEQ := Lib.hid (show Ending.returned (.tuple #[.agg #[.int .i64 size, (.slice a2 S.zs.length q2), .int .i64 s4], thV T4 (.slice ao n cap)]) = .returned (.tuple #[.agg #[.int .i64 size, (.slice a2 S.zs.length q2), .int .i64 (st + ((swt ag t zs)).c)], thV ((swt ag t zs)).t (.slice ao n cap)]) by rw [← hs4, ← hT4, HSW.out])
  replace HF := Lib.hid HFF
  have HZQ := Lib.hid (show (swt ag t zs).zs = S.zs by rw [HSW.out])
  clear hT4 hs4 HFF
  have m := HF.out.m
  have m0 := m.c0
  have m1 := m.c1
  have m2 := m.c2
  have x := HF.out.x
  have c0 := x.c0
  have c1 := x.c1
  have c2 := x.c2
  have c3 := x.c3
  have c4 := x.c4
  have c5 := x.c5
  have c6 := x.c6
  have c7 := x.c7
  have c8 := x.c8
  have c9 := x.c9
  have c10 := x.c10
  have c11 := x.c11
  have c12 := x.c12
  have y := HF.out.y
  have y0 := y.c0
  have y1 := y.c1
  have y2 := y.c2
  have yf := y.f
  have z := HF.out.z
  have r0 := z.c0
  have r1 := z.c1
  have r2 := z.c2
  have r3 := z.c3
  have r4 := z.c4
  have r5 := z.c5
  have r6 := z.c6
  have r7 := z.c7
  have r8 := z.c8
  have r9 := z.c9
  have r10 := z.c10
  have r11 := z.c11
  have r12 := z.c12
  have zf := z.f
  have FIN := HF.out.fin
  clear m x y z
  go_region
  go_wp2
  change bodyPost _ _ _ _ _ (setT (setM w3 (w.heap.size + 1 + 1) (.int .i64 size) (.slice a2 S.zs.length q2) (.int .i64 s4)) (w.heap.size + 1 + 1 + 1) T4 (.slice ao n cap)).drew
  generalize setT (setM w3 (w.heap.size + 1 + 1) (.int .i64 size) (.slice a2 S.zs.length q2) (.int .i64 s4)) (w.heap.size + 1 + 1 + 1) T4 (.slice ao n cap) = wf at *
  obtain ⟨fm, fx, o', l', b'⟩ := FIN
  have gm : Boxed wf.drew (w.heap.size + 1 + 1) (.int .i64 size) (.slice a2 S.zs.length q2) (.int .i64 s4) := fm
  have gx := fx.drew
  refine bodyPost_ret (v := .tuple #[.agg #[.int .i64 size, (.slice a2 S.zs.length q2), .int .i64 s4], thV T4 (.slice ao n cap)]) (by simp [results, Try.results29, go_sem, thV, gm.c0, gm.c1, gm.c2, gx.c0, gx.c1, gx.c2, gx.c3, gx.c4, gx.c5, gx.c6, gx.c7, gx.c8, gx.c9, gx.c10, gx.c11, gx.c12]) rfl ?_
  refine ⟨_, HEQ.out, ?_⟩
  rw [HZQ.out]
  exact ⟨own_at o' (fun _ _ _ => rfl), l', b'.drew⟩
end

end Go.Proofs.Ytfnjbbokbdddpaa.M2
namespace Go.Proofs.Ytfnjbbokbdddpaa.M2
open Go.RowKit

section
variable {w : World} {B : Nat} {u : Value} {size : Int} {zs : List Int} {st : Int} {t : Th}

set_option maxRecDepth 100000 in
set_option maxHeartbeats 16000000 in
theorem step42 (h : w.ownsRow B 2 1 u zs.length (zs.map (Value.int .i64))) (hB : B ≤ w.heap.size) (hl : zs.length ≤ 1000) (ao : Option Addr) (n cap : Nat) (ag : Int) (hp : t.pc = 42) (k0 : 0 ≤ st) (k1 : st < 1000000) :
    Calls Try.prog 29 #[.agg #[.int .i64 size, u, .int .i64 st], .int .i64 ag, thV t (.slice ao n cap)] w (RQ w B u size (.slice ao n cap) (swt ag t zs) st) := by
  obtain ⟨au, cu, rfl⟩ := ownShape h
  rw [show thV t (.slice ao n cap) = .agg #[.int .i64 t.ti, .int .i64 t.pc, .int .i64 t.rc, .int .i64 t.sq, .int .i64 t.wo, .int .i64 t.lk, .int .i64 t.cu, .int .i64 t.pv, .int .i64 t.nt, .int .i64 t.mx, .int .i64 t.ps, .int .i64 t.rn, .slice ao n cap] from rfl]
  have HL := Lib.hid hl
  have HBB := Lib.hid hB
  obtain ⟨S, hS⟩ : ∃ S, swt ag t zs = S := ⟨_, rfl⟩
  have HSW := Lib.hid hS
  have hp4 : 40 ≤ t.pc ∧ t.pc ≤ 43 := by omega
  have C0 := fun (W : World) (h : W.ownsRow B 2 1 (.slice au zs.length cu) zs.length (zs.map (Value.int .i64))) (hb : B ≤ W.heap.size) => refSeek (size := size) (st := st) h hb hl ao n cap (t := t) ag hp4 k0 k1
  rw [hS] at C0
  have HC0 := Lib.hid C0
  clear C0 hS hp4
  have HPC := Lib.hid hp
  clear hp
  obtain ⟨W, hW⟩ : ∃ W, (((w.alloc (.cells #[.int .i64 size, .slice au zs.length cu, .int .i64 st] 39)).alloc (.cells #[.int .i64 t.ti, .int .i64 t.pc, .int .i64 t.rc, .int .i64 t.sq, .int .i64 t.wo, .int .i64 t.lk, .int .i64 t.cu, .int .i64 t.pv, .int .i64 t.nt, .int .i64 t.mx, .int .i64 t.ps, .int .i64 t.rn, .slice ao n cap] 25)).alloc (.cells #[.int .i64 0, .slice none 0 0, .int .i64 0] 39)).alloc (.cells #[.int .i64 0, .int .i64 0, .int .i64 0, .int .i64 0, .int .i64 0, .int .i64 0, .int .i64 0, .int .i64 0, .int .i64 0, .int .i64 0, .int .i64 0, .int .i64 0, .slice none 0 0] 25) = W := ⟨_, rfl⟩
  have HP := Lib.hid (PB.new h t (.slice ao n cap) W hW)
  have HW := Lib.hid hW
  clear hW h hl hB
  go_enter Try.func29, Try.ntmps29
  go_upto_region 1 with (fail)
  rw [HW.out]
  clear HW
  have m0 := HP.out.m.c0
  have m1 := HP.out.m.c1
  have m2 := HP.out.m.c2
  go_upto_region 2 with (fail)
  have HC := Lib.hid (SC.new HP.out)
  generalize hWA : W.alloc (.cells #[.int .i64 size, .slice au zs.length cu, .int .i64 st] 39) = WA
  have HM := Lib.hid (show Boxed WA w.heap.size (.int .i64 size) (.slice au zs.length cu) (.int .i64 st) by subst hWA; exact HP.out.m.alloc _)
  have HKB := Lib.hid (show Boxed WA W.heap.size (.int .i64 size) (.slice au zs.length cu) (.int .i64 st) by subst hWA; exact Boxed.new _ _ _ _)
  rw [hWA] at HC
  have HSZ := Lib.hid (show w.heap.size + 4 < WA.heap.size by subst hWA; have := HP.out.s; simp; omega)
  clear hWA m0 m1 m2 HP
  generalize W.heap.size = KK at *
  have hK := HC.out.e
  have hk1 : ¬ KK = w.heap.size + 1 := by omega
  have hk2 : ¬ KK = w.heap.size + 1 + 1 := by omega
  have hk3 : ¬ KK = w.heap.size + 1 + 1 + 1 := by omega
  have hk4 : ¬ w.heap.size + 1 = KK := by omega
  have hk5 : ¬ w.heap.size + 1 + 1 = KK := by omega
  have hk6 : ¬ w.heap.size + 1 + 1 + 1 = KK := by omega
  clear hK
  have x1 := HC.out.x.c1
  rw [HPC.out] at x1
  go_upto_region 7 with (fail)
  clear x1
  have m0 := HM.out.c0
  have m1 := HM.out.c1
  have m2 := HM.out.c2
  have x := HC.out.x
  have c0 := x.c0
  have c1 := x.c1
  have c2 := x.c2
  have c3 := x.c3
  have c4 := x.c4
  have c5 := x.c5
  have c6 := x.c6
  have c7 := x.c7
  have c8 := x.c8
  have c9 := x.c9
  have c10 := x.c10
  have c11 := x.c11
  have c12 := x.c12
  have C := HC0.out _ HC.out.o (Nat.le_trans HBB.out HC.out.b.size)
  rw [show thV t (.slice ao n cap) = .agg #[.int .i64 t.ti, .int .i64 t.pc, .int .i64 t.rc, .int .i64 t.sq, .int .i64 t.wo, .int .i64 t.lk, .int .i64 t.cu, .int .i64 t.pv, .int .i64 t.nt, .int .i64 t.mx, .int .i64 t.ps, .int .i64 t.rn, .slice ao n cap] from rfl] at C
  have HCC := Lib.hid C
  clear x C HC0
  go_wp2_with fail
  with_reducible refine HCC.out.mono ?_
  clear HCC m0 m1 m2 c0 c1 c2 c3 c4 c5 c6 c7 c8 c9 c10 c11 c12
  rintro e w2 ⟨u', rfl, l2⟩
  obtain ⟨a2, q2, rfl⟩ := ownShape l2.1
  rw [show thV S.t (.slice ao n cap) = .agg #[.int .i64 S.t.ti, .int .i64 S.t.pc, .int .i64 S.t.rc, .int .i64 S.t.sq, .int .i64 S.t.wo, .int .i64 S.t.lk, .int .i64 S.t.cu, .int .i64 S.t.pv, .int .i64 S.t.nt, .int .i64 S.t.mx, .int .i64 S.t.ps, .int .i64 S.t.rn, .slice ao n cap] from rfl]
  go_upto_region 8 with (fail)
  generalize hW3 : (w2.alloc (.cells #[.int .i64 size, .slice a2 S.zs.length q2, .int .i64 (st + S.c)] 39)).alloc (.cells #[.int .i64 S.t.ti, .int .i64 S.t.pc, .int .i64 S.t.rc, .int .i64 S.t.sq, .int .i64 S.t.wo, .int .i64 S.t.lk, .int .i64 S.t.cu, .int .i64 S.t.pv, .int .i64 S.t.nt, .int .i64 S.t.mx, .int .i64 S.t.ps, .int .i64 S.t.rn, .slice ao n cap] 25) = w3
  have ff : Below w2.heap.size w2 w3 := by subst hW3; exact ((Below.refl _ _).alloc (Nat.le_refl _) _).alloc (by simp) _
  have HX1 := Lib.hid (show Boxed w3 w2.heap.size (.int .i64 size) (.slice a2 S.zs.length q2) (.int .i64 (st + S.c)) by subst hW3; exact (Boxed.new _ _ _ _).alloc _)
  have HX2 := Lib.hid (show TX w3 (w2.heap.size + 1) S.t (.slice ao n cap) by
    subst hW3
    have := TX.new (w2.alloc (.cells #[.int .i64 size, .slice a2 S.zs.length q2, .int .i64 (st + S.c)] 39)) S.t (.slice ao n cap)
    rw [show (w2.alloc (.cells #[.int .i64 size, .slice a2 S.zs.length q2, .int .i64 (st + S.c)] 39)).heap.size = w2.heap.size + 1 by simp] at this
    exact this)
  have HC2 := Lib.hid ((HC.out.call (Nat.le_of_lt (by have := HSZ.out; omega)) l2).fresh ff)
  have hKK := HC.out.e
  have hNN : w.heap.size + 5 ≤ w2.heap.size := by have := l2.2.2.size; have := HSZ.out; omega
  clear hW3 l2 HC HKB HM ff
  generalize w2.heap.size = NN at *
  have hn1 : ¬ NN + 1 = w.heap.size + 1 + 1 := by omega
  have hn2 : ¬ w.heap.size + 1 + 1 = NN + 1 := by omega
  have hn3 : ¬ NN + 1 = w.heap.size + 1 + 1 + 1 := by omega
  have hn4 : ¬ w.heap.size + 1 + 1 + 1 = NN + 1 := by omega
  have hn5 : ¬ NN = w.heap.size + 1 + 1 := by omega
  have hn6 : ¬ NN = w.heap.size + 1 + 1 + 1 := by omega
  have hn7 : ¬ NN = KK := by omega
  have hn8 : ¬ NN + 1 = KK := by omega
  have hn9 : ¬ NN = w.heap.size + 1 := by omega
  have hn10 : ¬ NN + 1 = w.heap.size + 1 := by omega
  have HF := Lib.hid (HC2.out.pf2 HX1.out HX2.out (by omega))
  clear hNN hKK HC2 HX1 HX2
  obtain ⟨T4, hT4⟩ : ∃ T4 : Th, (S.t : Th) = T4 := ⟨_, rfl⟩
  obtain ⟨s4, hs4⟩ : ∃ s4 : Int, st + S.c = s4 := ⟨_, rfl⟩
  have HFF := HF.out
  rw [hT4] at HFF
  rw [hs4] at HFF ⊢
  have HEQ := Lib.hid (show Ending.returned (.tuple #[.agg #[.int .i64 size, (.slice a2 S.zs.length q2), .int .i64 s4], thV T4 (.slice ao n cap)]) = .returned (.tuple #[.agg #[.int .i64 size, (.slice a2 S.zs.length q2), .int .i64 (st + ((swt ag t zs)).c)], thV ((swt ag t zs)).t (.slice ao n cap)]) by rw [← hs4, ← hT4, HSW.out])
  replace HF := Lib.hid HFF
  have HZQ := Lib.hid (show (swt ag t zs).zs = S.zs by rw [HSW.out])
  clear hT4 hs4 HFF
  have m := HF.out.m
  have m0 := m.c0
  have m1 := m.c1
  have m2 := m.c2
  have x := HF.out.x
  have c0 := x.c0
  have c1 := x.c1
  have c2 := x.c2
  have c3 := x.c3
  have c4 := x.c4
  have c5 := x.c5
  have c6 := x.c6
  have c7 := x.c7
  have c8 := x.c8
  have c9 := x.c9
  have c10 := x.c10
  have c11 := x.c11
  have c12 := x.c12
  have y := HF.out.y
  have y0 := y.c0
  have y1 := y.c1
  have y2 := y.c2
  have yf := y.f
  have z := HF.out.z
  have r0 := z.c0
  have r1 := z.c1
  have r2 := z.c2
  have r3 := z.c3
  have r4 := z.c4
  have r5 := z.c5
  have r6 := z.c6
  have r7 := z.c7
  have r8 := z.c8
  have r9 := z.c9
  have r10 := z.c10
  have r11 := z.c11
  have r12 := z.c12
  have zf := z.f
  have FIN := HF.out.fin
  clear m x y z
  go_region
  go_wp2
  change bodyPost _ _ _ _ _ (setT (setM w3 (w.heap.size + 1 + 1) (.int .i64 size) (.slice a2 S.zs.length q2) (.int .i64 s4)) (w.heap.size + 1 + 1 + 1) T4 (.slice ao n cap)).drew
  generalize setT (setM w3 (w.heap.size + 1 + 1) (.int .i64 size) (.slice a2 S.zs.length q2) (.int .i64 s4)) (w.heap.size + 1 + 1 + 1) T4 (.slice ao n cap) = wf at *
  obtain ⟨fm, fx, o', l', b'⟩ := FIN
  have gm : Boxed wf.drew (w.heap.size + 1 + 1) (.int .i64 size) (.slice a2 S.zs.length q2) (.int .i64 s4) := fm
  have gx := fx.drew
  refine bodyPost_ret (v := .tuple #[.agg #[.int .i64 size, (.slice a2 S.zs.length q2), .int .i64 s4], thV T4 (.slice ao n cap)]) (by simp [results, Try.results29, go_sem, thV, gm.c0, gm.c1, gm.c2, gx.c0, gx.c1, gx.c2, gx.c3, gx.c4, gx.c5, gx.c6, gx.c7, gx.c8, gx.c9, gx.c10, gx.c11, gx.c12]) rfl ?_
  refine ⟨_, HEQ.out, ?_⟩
  rw [HZQ.out]
  exact ⟨own_at o' (fun _ _ _ => rfl), l', b'.drew⟩

set_option maxRecDepth 100000 in
set_option maxHeartbeats 16000000 in
theorem step43 (h : w.ownsRow B 2 1 u zs.length (zs.map (Value.int .i64))) (hB : B ≤ w.heap.size) (hl : zs.length ≤ 1000) (ao : Option Addr) (n cap : Nat) (ag : Int) (hp : t.pc = 43) (k0 : 0 ≤ st) (k1 : st < 1000000) :
    Calls Try.prog 29 #[.agg #[.int .i64 size, u, .int .i64 st], .int .i64 ag, thV t (.slice ao n cap)] w (RQ w B u size (.slice ao n cap) (swt ag t zs) st) := by
  obtain ⟨au, cu, rfl⟩ := ownShape h
  rw [show thV t (.slice ao n cap) = .agg #[.int .i64 t.ti, .int .i64 t.pc, .int .i64 t.rc, .int .i64 t.sq, .int .i64 t.wo, .int .i64 t.lk, .int .i64 t.cu, .int .i64 t.pv, .int .i64 t.nt, .int .i64 t.mx, .int .i64 t.ps, .int .i64 t.rn, .slice ao n cap] from rfl]
  have HL := Lib.hid hl
  have HBB := Lib.hid hB
  obtain ⟨S, hS⟩ : ∃ S, swt ag t zs = S := ⟨_, rfl⟩
  have HSW := Lib.hid hS
  have hp4 : 40 ≤ t.pc ∧ t.pc ≤ 43 := by omega
  have C0 := fun (W : World) (h : W.ownsRow B 2 1 (.slice au zs.length cu) zs.length (zs.map (Value.int .i64))) (hb : B ≤ W.heap.size) => refSeek (size := size) (st := st) h hb hl ao n cap (t := t) ag hp4 k0 k1
  rw [hS] at C0
  have HC0 := Lib.hid C0
  clear C0 hS hp4
  have HPC := Lib.hid hp
  clear hp
  obtain ⟨W, hW⟩ : ∃ W, (((w.alloc (.cells #[.int .i64 size, .slice au zs.length cu, .int .i64 st] 39)).alloc (.cells #[.int .i64 t.ti, .int .i64 t.pc, .int .i64 t.rc, .int .i64 t.sq, .int .i64 t.wo, .int .i64 t.lk, .int .i64 t.cu, .int .i64 t.pv, .int .i64 t.nt, .int .i64 t.mx, .int .i64 t.ps, .int .i64 t.rn, .slice ao n cap] 25)).alloc (.cells #[.int .i64 0, .slice none 0 0, .int .i64 0] 39)).alloc (.cells #[.int .i64 0, .int .i64 0, .int .i64 0, .int .i64 0, .int .i64 0, .int .i64 0, .int .i64 0, .int .i64 0, .int .i64 0, .int .i64 0, .int .i64 0, .int .i64 0, .slice none 0 0] 25) = W := ⟨_, rfl⟩
  have HP := Lib.hid (PB.new h t (.slice ao n cap) W hW)
  have HW := Lib.hid hW
  clear hW h hl hB
  go_enter Try.func29, Try.ntmps29
  go_upto_region 1 with (fail)
  rw [HW.out]
  clear HW
  have m0 := HP.out.m.c0
  have m1 := HP.out.m.c1
  have m2 := HP.out.m.c2
  go_upto_region 2 with (fail)
  have HC := Lib.hid (SC.new HP.out)
  generalize hWA : W.alloc (.cells #[.int .i64 size, .slice au zs.length cu, .int .i64 st] 39) = WA
  have HM := Lib.hid (show Boxed WA w.heap.size (.int .i64 size) (.slice au zs.length cu) (.int .i64 st) by subst hWA; exact HP.out.m.alloc _)
  have HKB := Lib.hid (show Boxed WA W.heap.size (.int .i64 size) (.slice au zs.length cu) (.int .i64 st) by subst hWA; exact Boxed.new _ _ _ _)
  rw [hWA] at HC
  have HSZ := Lib.hid (show w.heap.size + 4 < WA.heap.size by subst hWA; have := HP.out.s; simp; omega)
  clear hWA m0 m1 m2 HP
  generalize W.heap.size = KK at *
  have hK := HC.out.e
  have hk1 : ¬ KK = w.heap.size + 1 := by omega
  have hk2 : ¬ KK = w.heap.size + 1 + 1 := by omega
  have hk3 : ¬ KK = w.heap.size + 1 + 1 + 1 := by omega
  have hk4 : ¬ w.heap.size + 1 = KK := by omega
  have hk5 : ¬ w.heap.size + 1 + 1 = KK := by omega
  have hk6 : ¬ w.heap.size + 1 + 1 + 1 = KK := by omega
  clear hK
  have x1 := HC.out.x.c1
  rw [HPC.out] at x1
  go_upto_region 7 with (fail)
  clear x1
  have m0 := HM.out.c0
  have m1 := HM.out.c1
  have m2 := HM.out.c2
  have x := HC.out.x
  have c0 := x.c0
  have c1 := x.c1
  have c2 := x.c2
  have c3 := x.c3
  have c4 := x.c4
  have c5 := x.c5
  have c6 := x.c6
  have c7 := x.c7
  have c8 := x.c8
  have c9 := x.c9
  have c10 := x.c10
  have c11 := x.c11
  have c12 := x.c12
  have C := HC0.out _ HC.out.o (Nat.le_trans HBB.out HC.out.b.size)
  rw [show thV t (.slice ao n cap) = .agg #[.int .i64 t.ti, .int .i64 t.pc, .int .i64 t.rc, .int .i64 t.sq, .int .i64 t.wo, .int .i64 t.lk, .int .i64 t.cu, .int .i64 t.pv, .int .i64 t.nt, .int .i64 t.mx, .int .i64 t.ps, .int .i64 t.rn, .slice ao n cap] from rfl] at C
  have HCC := Lib.hid C
  clear x C HC0
  go_wp2_with fail
  with_reducible refine HCC.out.mono ?_
  clear HCC m0 m1 m2 c0 c1 c2 c3 c4 c5 c6 c7 c8 c9 c10 c11 c12
  rintro e w2 ⟨u', rfl, l2⟩
  obtain ⟨a2, q2, rfl⟩ := ownShape l2.1
  rw [show thV S.t (.slice ao n cap) = .agg #[.int .i64 S.t.ti, .int .i64 S.t.pc, .int .i64 S.t.rc, .int .i64 S.t.sq, .int .i64 S.t.wo, .int .i64 S.t.lk, .int .i64 S.t.cu, .int .i64 S.t.pv, .int .i64 S.t.nt, .int .i64 S.t.mx, .int .i64 S.t.ps, .int .i64 S.t.rn, .slice ao n cap] from rfl]
  go_upto_region 8 with (fail)
  generalize hW3 : (w2.alloc (.cells #[.int .i64 size, .slice a2 S.zs.length q2, .int .i64 (st + S.c)] 39)).alloc (.cells #[.int .i64 S.t.ti, .int .i64 S.t.pc, .int .i64 S.t.rc, .int .i64 S.t.sq, .int .i64 S.t.wo, .int .i64 S.t.lk, .int .i64 S.t.cu, .int .i64 S.t.pv, .int .i64 S.t.nt, .int .i64 S.t.mx, .int .i64 S.t.ps, .int .i64 S.t.rn, .slice ao n cap] 25) = w3
  have ff : Below w2.heap.size w2 w3 := by subst hW3; exact ((Below.refl _ _).alloc (Nat.le_refl _) _).alloc (by simp) _
  have HX1 := Lib.hid (show Boxed w3 w2.heap.size (.int .i64 size) (.slice a2 S.zs.length q2) (.int .i64 (st + S.c)) by subst hW3; exact (Boxed.new _ _ _ _).alloc _)
  have HX2 := Lib.hid (show TX w3 (w2.heap.size + 1) S.t (.slice ao n cap) by
    subst hW3
    have := TX.new (w2.alloc (.cells #[.int .i64 size, .slice a2 S.zs.length q2, .int .i64 (st + S.c)] 39)) S.t (.slice ao n cap)
    rw [show (w2.alloc (.cells #[.int .i64 size, .slice a2 S.zs.length q2, .int .i64 (st + S.c)] 39)).heap.size = w2.heap.size + 1 by simp] at this
    exact this)
  have HC2 := Lib.hid ((HC.out.call (Nat.le_of_lt (by have := HSZ.out; omega)) l2).fresh ff)
  have hKK := HC.out.e
  have hNN : w.heap.size + 5 ≤ w2.heap.size := by have := l2.2.2.size; have := HSZ.out; omega
  clear hW3 l2 HC HKB HM ff
  generalize w2.heap.size = NN at *
  have hn1 : ¬ NN + 1 = w.heap.size + 1 + 1 := by omega
  have hn2 : ¬ w.heap.size + 1 + 1 = NN + 1 := by omega
  have hn3 : ¬ NN + 1 = w.heap.size + 1 + 1 + 1 := by omega
  have hn4 : ¬ w.heap.size + 1 + 1 + 1 = NN + 1 := by omega
  have hn5 : ¬ NN = w.heap.size + 1 + 1 := by omega
  have hn6 : ¬ NN = w.heap.size + 1 + 1 + 1 := by omega
  have hn7 : ¬ NN = KK := by omega
  have hn8 : ¬ NN + 1 = KK := by omega
  have hn9 : ¬ NN = w.heap.size + 1 := by omega
  have hn10 : ¬ NN + 1 = w.heap.size + 1 := by omega
  have HF := Lib.hid (HC2.out.pf2 HX1.out HX2.out (by omega))
  clear hNN hKK HC2 HX1 HX2
  obtain ⟨T4, hT4⟩ : ∃ T4 : Th, (S.t : Th) = T4 := ⟨_, rfl⟩
  obtain ⟨s4, hs4⟩ : ∃ s4 : Int, st + S.c = s4 := ⟨_, rfl⟩
  have HFF := HF.out
  rw [hT4] at HFF
  rw [hs4] at HFF ⊢
  have HEQ := Lib.hid (show Ending.returned (.tuple #[.agg #[.int .i64 size, (.slice a2 S.zs.length q2), .int .i64 s4], thV T4 (.slice ao n cap)]) = .returned (.tuple #[.agg #[.int .i64 size, (.slice a2 S.zs.length q2), .int .i64 (st + ((swt ag t zs)).c)], thV ((swt ag t zs)).t (.slice ao n cap)]) by rw [← hs4, ← hT4, HSW.out])
  replace HF := Lib.hid HFF
  have HZQ := Lib.hid (show (swt ag t zs).zs = S.zs by rw [HSW.out])
  clear hT4 hs4 HFF
  have m := HF.out.m
  have m0 := m.c0
  have m1 := m.c1
  have m2 := m.c2
  have x := HF.out.x
  have c0 := x.c0
  have c1 := x.c1
  have c2 := x.c2
  have c3 := x.c3
  have c4 := x.c4
  have c5 := x.c5
  have c6 := x.c6
  have c7 := x.c7
  have c8 := x.c8
  have c9 := x.c9
  have c10 := x.c10
  have c11 := x.c11
  have c12 := x.c12
  have y := HF.out.y
  have y0 := y.c0
  have y1 := y.c1
  have y2 := y.c2
  have yf := y.f
  have z := HF.out.z
  have r0 := z.c0
  have r1 := z.c1
  have r2 := z.c2
  have r3 := z.c3
  have r4 := z.c4
  have r5 := z.c5
  have r6 := z.c6
  have r7 := z.c7
  have r8 := z.c8
  have r9 := z.c9
  have r10 := z.c10
  have r11 := z.c11
  have r12 := z.c12
  have zf := z.f
  have FIN := HF.out.fin
  clear m x y z
  go_region
  go_wp2
  change bodyPost _ _ _ _ _ (setT (setM w3 (w.heap.size + 1 + 1) (.int .i64 size) (.slice a2 S.zs.length q2) (.int .i64 s4)) (w.heap.size + 1 + 1 + 1) T4 (.slice ao n cap)).drew
  generalize setT (setM w3 (w.heap.size + 1 + 1) (.int .i64 size) (.slice a2 S.zs.length q2) (.int .i64 s4)) (w.heap.size + 1 + 1 + 1) T4 (.slice ao n cap) = wf at *
  obtain ⟨fm, fx, o', l', b'⟩ := FIN
  have gm : Boxed wf.drew (w.heap.size + 1 + 1) (.int .i64 size) (.slice a2 S.zs.length q2) (.int .i64 s4) := fm
  have gx := fx.drew
  refine bodyPost_ret (v := .tuple #[.agg #[.int .i64 size, (.slice a2 S.zs.length q2), .int .i64 s4], thV T4 (.slice ao n cap)]) (by simp [results, Try.results29, go_sem, thV, gm.c0, gm.c1, gm.c2, gx.c0, gx.c1, gx.c2, gx.c3, gx.c4, gx.c5, gx.c6, gx.c7, gx.c8, gx.c9, gx.c10, gx.c11, gx.c12]) rfl ?_
  refine ⟨_, HEQ.out, ?_⟩
  rw [HZQ.out]
  exact ⟨own_at o' (fun _ _ _ => rfl), l', b'.drew⟩
end

end Go.Proofs.Ytfnjbbokbdddpaa.M2
namespace Go.Proofs.Ytfnjbbokbdddpaa.M2
open Go.RowKit

section
variable {w : World} {B : Nat} {u : Value} {size : Int} {zs : List Int} {st : Int} {t : Th}

set_option maxRecDepth 100000 in
set_option maxHeartbeats 16000000 in
theorem step44y (h : w.ownsRow B 2 1 u zs.length (zs.map (Value.int .i64))) (hB : B ≤ w.heap.size) (hl : zs.length ≤ 1000) (ao : Option Addr) (n cap : Nat) (ag : Int) (hp : t.pc = 44) (hcu : ad t.cu 0 = t.cu) (hs : swb zs t.cu 0 = true) (k0 : 0 ≤ st) (k1 : st < 1000000) :
    Calls Try.prog 29 #[.agg #[.int .i64 size, u, .int .i64 st], .int .i64 ag, thV t (.slice ao n cap)] w (RQ w B u size (.slice ao n cap) (swt ag t zs) st) := by
  obtain ⟨au, cu, rfl⟩ := ownShape h
  rw [show thV t (.slice ao n cap) = .agg #[.int .i64 t.ti, .int .i64 t.pc, .int .i64 t.rc, .int .i64 t.sq, .int .i64 t.wo, .int .i64 t.lk, .int .i64 t.cu, .int .i64 t.pv, .int .i64 t.nt, .int .i64 t.mx, .int .i64 t.ps, .int .i64 t.rn, .slice ao n cap] from rfl]
  have HL := Lib.hid hl
  have HBB := Lib.hid hB
  have HSW := Lib.hid (show swt ag t zs = ⟨{ t with pc := 45 }, swp zs t.cu 0 (-1), cn zs t.cu⟩ by rw [swt44 ag t zs hp, hcu, hs]; rfl)
  have HSB := Lib.hid hs
  clear hcu hs
  have HPC := Lib.hid hp
  clear hp
  obtain ⟨W, hW⟩ : ∃ W, (((w.alloc (.cells #[.int .i64 size, .slice au zs.length cu, .int .i64 st] 39)).alloc (.cells #[.int .i64 t.ti, .int .i64 t.pc, .int .i64 t.rc, .int .i64 t.sq, .int .i64 t.wo, .int .i64 t.lk, .int .i64 t.cu, .int .i64 t.pv, .int .i64 t.nt, .int .i64 t.mx, .int .i64 t.ps, .int .i64 t.rn, .slice ao n cap] 25)).alloc (.cells #[.int .i64 0, .slice none 0 0, .int .i64 0] 39)).alloc (.cells #[.int .i64 0, .int .i64 0, .int .i64 0, .int .i64 0, .int .i64 0, .int .i64 0, .int .i64 0, .int .i64 0, .int .i64 0, .int .i64 0, .int .i64 0, .int .i64 0, .slice none 0 0] 25) = W := ⟨_, rfl⟩
  have HP := Lib.hid (PB.new h t (.slice ao n cap) W hW)
  have HW := Lib.hid hW
  clear hW h hl hB
  go_enter Try.func29, Try.ntmps29
  go_upto_region 1 with (fail)
  rw [HW.out]
  clear HW
  have m0 := HP.out.m.c0
  have m1 := HP.out.m.c1
  have m2 := HP.out.m.c2
  go_upto_region 2 with (fail)
  have HC := Lib.hid (SC.new HP.out)
  generalize hWA : W.alloc (.cells #[.int .i64 size, .slice au zs.length cu, .int .i64 st] 39) = WA
  have HM := Lib.hid (show Boxed WA w.heap.size (.int .i64 size) (.slice au zs.length cu) (.int .i64 st) by subst hWA; exact HP.out.m.alloc _)
  have HKB := Lib.hid (show Boxed WA W.heap.size (.int .i64 size) (.slice au zs.length cu) (.int .i64 st) by subst hWA; exact Boxed.new _ _ _ _)
  rw [hWA] at HC
  have HSZ := Lib.hid (show w.heap.size + 4 < WA.heap.size by subst hWA; have := HP.out.s; simp; omega)
  clear hWA m0 m1 m2 HP
  generalize W.heap.size = KK at *
  have hK := HC.out.e
  have hk1 : ¬ KK = w.heap.size + 1 := by omega
  have hk2 : ¬ KK = w.heap.size + 1 + 1 := by omega
  have hk3 : ¬ KK = w.heap.size + 1 + 1 + 1 := by omega
  have hk4 : ¬ w.heap.size + 1 = KK := by omega
  have hk5 : ¬ w.heap.size + 1 + 1 = KK := by omega
  have hk6 : ¬ w.heap.size + 1 + 1 + 1 = KK := by omega
  clear hK
  have x1 := HC.out.x.c1
  rw [HPC.out] at x1
  go_upto_region 10 with (fail)
  clear x1
  have m0 := HM.out.c0
  have m1 := HM.out.c1
  have m2 := HM.out.c2
  have x6 := HC.out.x.c6
  have C := refSwapD (size := size) (st := st) HC.out.o (Nat.le_trans HBB.out HC.out.b.size) HL.out t.cu 0 (-1) k0 k1
  rw [HSB.out] at C
  have HCC := Lib.hid C
  clear C
  go_wp2_with fail
  with_reducible refine HCC.out.mono ?_
  clear HCC m0 m1 m2 x6
  rintro e w2 ⟨u', rfl, l2⟩
  obtain ⟨a2, q2, rfl⟩ := ownShape l2.1
  obtain ⟨Z2, hZ2⟩ : ∃ Z, swp zs t.cu 0 (-1) = Z := ⟨_, rfl⟩
  rw [hZ2] at l2 HSW ⊢
  clear hZ2
  go_upto_region 11 with (fail)
  generalize hW3 : w2.alloc (.cells #[.int .i64 size, .slice a2 Z2.length q2, .int .i64 (st + cn zs t.cu)] 39) = w3
  have ff : Below w2.heap.size w2 w3 := by subst hW3; exact (Below.refl _ _).alloc (Nat.le_refl _) _
  have HX1 := Lib.hid (show Boxed w3 w2.heap.size (.int .i64 size) (.slice a2 Z2.length q2) (.int .i64 (st + cn zs t.cu)) by subst hW3; exact Boxed.new _ _ _ _)
  have HKB2 := Lib.hid ((HKB.out.keep l2.2.2).keep ff)
  have HC2 := Lib.hid ((HC.out.call (Nat.le_of_lt (by have := HSZ.out; omega)) l2).fresh ff)
  have hKK := HC.out.e
  have hNN : w.heap.size + 5 ≤ w2.heap.size := by have := l2.2.2.size; have := HSZ.out; omega
  clear hW3 l2 HC HKB HM ff
  generalize w2.heap.size = NN at *
  have hn1 : ¬ NN + 1 = w.heap.size + 1 + 1 := by omega
  have hn2 : ¬ w.heap.size + 1 + 1 = NN + 1 := by omega
  have hn3 : ¬ NN + 1 = w.heap.size + 1 + 1 + 1 := by omega
  have hn4 : ¬ w.heap.size + 1 + 1 + 1 = NN + 1 := by omega
  have hn5 : ¬ NN = w.heap.size + 1 + 1 := by omega
  have hn6 : ¬ NN = w.heap.size + 1 + 1 + 1 := by omega
  have hn7 : ¬ NN = KK := by omega
  have hn8 : ¬ NN + 1 = KK := by omega
  have hn9 : ¬ NN = w.heap.size + 1 := by omega
  have hn10 : ¬ NN + 1 = w.heap.size + 1 := by omega
  clear hNN hKK
  have n0 := HX1.out.c0
  have n1 := HX1.out.c1
  have n2' := HX1.out.c2
  have kf := HKB2.out.f
  have q0 := HKB2.out.c0
  have q1 := HKB2.out.c1
  have q2' := HKB2.out.c2
  go_upto_region 14 with (fail)
  have HF := Lib.hid (HC2.out.setK (st + cn zs t.cu))
  clear kf q0 q1 q2' n0 n1 n2' HC2 HKB2 HX1
  obtain ⟨v0, hv0⟩ : ∃ v, v = setM w3 KK (.int .i64 size) (.slice a2 Z2.length q2) (.int .i64 (st + cn zs t.cu)) := ⟨_, rfl⟩
  rw [← hv0] at HF
  change Code.wp _ _ _ _ (setM w3 KK (.int .i64 size) (.slice a2 Z2.length q2) (.int .i64 (st + cn zs t.cu)))
  rw [← hv0]
  clear hv0
  have yy := HF.out.x.c1
  have yf := HF.out.x.f
  go_upto_region 29 with (fail)
  have HF' := Lib.hid (HF.out.set (HF.out.x.s1 45))
  clear HF yy yf
  generalize hV : v0.setCell ⟨w.heap.size + 1, 1, none⟩ (.int .i64 45) = v1
  rw [hV] at HF'
  have HF := HF'
  clear HF' hV
  obtain ⟨T4, hT4⟩ : ∃ T4 : Th, ({ t with pc := 45 } : Th) = T4 := ⟨_, rfl⟩
  obtain ⟨s4, hs4⟩ : ∃ s4 : Int, st + cn zs t.cu = s4 := ⟨_, rfl⟩
  have HFF := HF.out
  rw [hT4] at HFF
  rw [hs4] at HFF ⊢
  have HEQ := Lib.hid (show Ending.returned (.tuple #[.agg #[.int .i64 size, (.slice a2 Z2.length q2), .int .i64 s4], thV T4 (.slice ao n cap)]) = .returned (.tuple #[.agg #[.int .i64 size, (.slice a2 Z2.length q2), .int .i64 (st + ((swt ag t zs)).c)], thV ((swt ag t zs)).t (.slice ao n cap)]) by rw [← hs4, ← hT4, HSW.out])
  replace HF := Lib.hid HFF
  have HZQ := Lib.hid (show (swt ag t zs).zs = Z2 by rw [HSW.out])
  clear hT4 hs4 HFF
  have m := HF.out.m
  have m0 := m.c0
  have m1 := m.c1
  have m2 := m.c2
  have x := HF.out.x
  have c0 := x.c0
  have c1 := x.c1
  have c2 := x.c2
  have c3 := x.c3
  have c4 := x.c4
  have c5 := x.c5
  have c6 := x.c6
  have c7 := x.c7
  have c8 := x.c8
  have c9 := x.c9
  have c10 := x.c10
  have c11 := x.c11
  have c12 := x.c12
  have y := HF.out.y
  have y0 := y.c0
  have y1 := y.c1
  have y2 := y.c2
  have yf := y.f
  have z := HF.out.z
  have r0 := z.c0
  have r1 := z.c1
  have r2 := z.c2
  have r3 := z.c3
  have r4 := z.c4
  have r5 := z.c5
  have r6 := z.c6
  have r7 := z.c7
  have r8 := z.c8
  have r9 := z.c9
  have r10 := z.c10
  have r11 := z.c11
  have r12 := z.c12
  have zf := z.f
  have FIN := HF.out.fin
  clear m x y z
  go_region
  go_wp2
  change bodyPost _ _ _ _ _ (setT (setM v1 (w.heap.size + 1 + 1) (.int .i64 size) (.slice a2 Z2.length q2) (.int .i64 s4)) (w.heap.size + 1 + 1 + 1) T4 (.slice ao n cap)).drew
  generalize setT (setM v1 (w.heap.size + 1 + 1) (.int .i64 size) (.slice a2 Z2.length q2) (.int .i64 s4)) (w.heap.size + 1 + 1 + 1) T4 (.slice ao n cap) = wf at *
  obtain ⟨fm, fx, o', l', b'⟩ := FIN
  have gm : Boxed wf.drew (w.heap.size + 1 + 1) (.int .i64 size) (.slice a2 Z2.length q2) (.int .i64 s4) := fm
  have gx := fx.drew
  refine bodyPost_ret (v := .tuple #[.agg #[.int .i64 size, (.slice a2 Z2.length q2), .int .i64 s4], thV T4 (.slice ao n cap)]) (by simp [results, Try.results29, go_sem, thV, gm.c0, gm.c1, gm.c2, gx.c0, gx.c1, gx.c2, gx.c3, gx.c4, gx.c5, gx.c6, gx.c7, gx.c8, gx.c9, gx.c10, gx.c11, gx.c12]) rfl ?_
  refine ⟨_, HEQ.out, ?_⟩
  rw [HZQ.out]
  exact ⟨own_at o' (fun _ _ _ => rfl), l', b'.drew⟩

set_option maxRecDepth 100000 in
set_option maxHeartbeats 16000000 in
theorem step44n (h : w.ownsRow B 2 1 u zs.length (zs.map (Value.int .i64))) (hB : B ≤ w.heap.size) (hl : zs.length ≤ 1000) (ao : Option Addr) (n cap : Nat) (ag : Int) (hp : t.pc = 44) (hcu : ad t.cu 0 = t.cu) (hs : swb zs t.cu 0 = false) (k0 : 0 ≤ st) (k1 : st < 1000000) :
    Calls Try.prog 29 #[.agg #[.int .i64 size, u, .int .i64 st], .int .i64 ag, thV t (.slice ao n cap)] w (RQ w B u size (.slice ao n cap) (swt ag t zs) st) := by
  obtain ⟨au, cu, rfl⟩ := ownShape h
  rw [show thV t (.slice ao n cap) = .agg #[.int .i64 t.ti, .int .i64 t.pc, .int .i64 t.rc, .int .i64 t.sq, .int .i64 t.wo, .int .i64 t.lk, .int .i64 t.cu, .int .i64 t.pv, .int .i64 t.nt, .int .i64 t.mx, .int .i64 t.ps, .int .i64 t.rn, .slice ao n cap] from rfl]
  have HL := Lib.hid hl
  have HBB := Lib.hid hB
  have HSW := Lib.hid (show swt ag t zs = ⟨byT t, swp zs t.cu 0 (-1), cn zs t.cu⟩ by rw [swt44 ag t zs hp, hcu, hs]; rfl)
  have HSB := Lib.hid hs
  clear hcu hs
  have HPC := Lib.hid hp
  clear hp
  obtain ⟨W, hW⟩ : ∃ W, (((w.alloc (.cells #[.int .i64 size, .slice au zs.length cu, .int .i64 st] 39)).alloc (.cells #[.int .i64 t.ti, .int .i64 t.pc, .int .i64 t.rc, .int .i64 t.sq, .int .i64 t.wo, .int .i64 t.lk, .int .i64 t.cu, .int .i64 t.pv, .int .i64 t.nt, .int .i64 t.mx, .int .i64 t.ps, .int .i64 t.rn, .slice ao n cap] 25)).alloc (.cells #[.int .i64 0, .slice none 0 0, .int .i64 0] 39)).alloc (.cells #[.int .i64 0, .int .i64 0, .int .i64 0, .int .i64 0, .int .i64 0, .int .i64 0, .int .i64 0, .int .i64 0, .int .i64 0, .int .i64 0, .int .i64 0, .int .i64 0, .slice none 0 0] 25) = W := ⟨_, rfl⟩
  have HP := Lib.hid (PB.new h t (.slice ao n cap) W hW)
  have HW := Lib.hid hW
  clear hW h hl hB
  go_enter Try.func29, Try.ntmps29
  go_upto_region 1 with (fail)
  rw [HW.out]
  clear HW
  have m0 := HP.out.m.c0
  have m1 := HP.out.m.c1
  have m2 := HP.out.m.c2
  go_upto_region 2 with (fail)
  have HC := Lib.hid (SC.new HP.out)
  generalize hWA : W.alloc (.cells #[.int .i64 size, .slice au zs.length cu, .int .i64 st] 39) = WA
  have HM := Lib.hid (show Boxed WA w.heap.size (.int .i64 size) (.slice au zs.length cu) (.int .i64 st) by subst hWA; exact HP.out.m.alloc _)
  have HKB := Lib.hid (show Boxed WA W.heap.size (.int .i64 size) (.slice au zs.length cu) (.int .i64 st) by subst hWA; exact Boxed.new _ _ _ _)
  rw [hWA] at HC
  have HSZ := Lib.hid (show w.heap.size + 4 < WA.heap.size by subst hWA; have := HP.out.s; simp; omega)
  clear hWA m0 m1 m2 HP
  generalize W.heap.size = KK at *
  have hK := HC.out.e
  have hk1 : ¬ KK = w.heap.size + 1 := by omega
  have hk2 : ¬ KK = w.heap.size + 1 + 1 := by omega
  have hk3 : ¬ KK = w.heap.size + 1 + 1 + 1 := by omega
  have hk4 : ¬ w.heap.size + 1 = KK := by omega
  have hk5 : ¬ w.heap.size + 1 + 1 = KK := by omega
  have hk6 : ¬ w.heap.size + 1 + 1 + 1 = KK := by omega
  clear hK
  have x1 := HC.out.x.c1
  rw [HPC.out] at x1
  go_upto_region 10 with (fail)
  clear x1
  have m0 := HM.out.c0
  have m1 := HM.out.c1
  have m2 := HM.out.c2
  have x6 := HC.out.x.c6
  have C := refSwapD (size := size) (st := st) HC.out.o (Nat.le_trans HBB.out HC.out.b.size) HL.out t.cu 0 (-1) k0 k1
  rw [HSB.out] at C
  have HCC := Lib.hid C
  clear C
  go_wp2_with fail
  with_reducible refine HCC.out.mono ?_
  clear HCC m0 m1 m2 x6
  rintro e w2 ⟨u', rfl, l2⟩
  obtain ⟨a2, q2, rfl⟩ := ownShape l2.1
  obtain ⟨Z2, hZ2⟩ : ∃ Z, swp zs t.cu 0 (-1) = Z := ⟨_, rfl⟩
  rw [hZ2] at l2 HSW ⊢
  clear hZ2
  go_upto_region 11 with (fail)
  generalize hW3 : w2.alloc (.cells #[.int .i64 size, .slice a2 Z2.length q2, .int .i64 (st + cn zs t.cu)] 39) = w3
  have ff : Below w2.heap.size w2 w3 := by subst hW3; exact (Below.refl _ _).alloc (Nat.le_refl _) _
  have HX1 := Lib.hid (show Boxed w3 w2.heap.size (.int .i64 size) (.slice a2 Z2.length q2) (.int .i64 (st + cn zs t.cu)) by subst hW3; exact Boxed.new _ _ _ _)
  have HKB2 := Lib.hid ((HKB.out.keep l2.2.2).keep ff)
  have HC2 := Lib.hid ((HC.out.call (Nat.le_of_lt (by have := HSZ.out; omega)) l2).fresh ff)
  have hKK := HC.out.e
  have hNN : w.heap.size + 5 ≤ w2.heap.size := by have := l2.2.2.size; have := HSZ.out; omega
  clear hW3 l2 HC HKB HM ff
  generalize w2.heap.size = NN at *
  have hn1 : ¬ NN + 1 = w.heap.size + 1 + 1 := by omega
  have hn2 : ¬ w.heap.size + 1 + 1 = NN + 1 := by omega
  have hn3 : ¬ NN + 1 = w.heap.size + 1 + 1 + 1 := by omega
  have hn4 : ¬ w.heap.size + 1 + 1 + 1 = NN + 1 := by omega
  have hn5 : ¬ NN = w.heap.size + 1 + 1 := by omega
  have hn6 : ¬ NN = w.heap.size + 1 + 1 + 1 := by omega
  have hn7 : ¬ NN = KK := by omega
  have hn8 : ¬ NN + 1 = KK := by omega
  have hn9 : ¬ NN = w.heap.size + 1 := by omega
  have hn10 : ¬ NN + 1 = w.heap.size + 1 := by omega
  clear hNN hKK
  have HF := Lib.hid (HC2.out.pf HX1.out)
  clear HC2 HX1 HKB2
  go_upto_region 12 with (fail)
  obtain ⟨s4, hs4⟩ : ∃ s4 : Int, st + cn zs t.cu = s4 := ⟨_, rfl⟩
  have HFF := HF.out
  rw [hs4] at HFF
  rw [hs4]
  have HEQ := Lib.hid (show Ending.returned (.tuple #[.agg #[.int .i64 size, (.slice a2 Z2.length q2), .int .i64 s4], thV (byT t) (.slice ao n cap)]) = .returned (.tuple #[.agg #[.int .i64 size, (.slice a2 Z2.length q2), .int .i64 (st + (swt ag t zs).c)], thV (swt ag t zs).t (.slice ao n cap)]) by rw [← hs4, HSW.out])
  have HZQ := Lib.hid (show (swt ag t zs).zs = Z2 by rw [HSW.out])
  replace HF := Lib.hid HFF
  clear hs4 HFF
  have HFd := Lib.hid (HF.out.fresh (Below.refl w3.heap.size w3).drew)
  have CB := refBy w3.drew t ao n cap
  rw [show thV t (.slice ao n cap) = .agg #[.int .i64 t.ti, .int .i64 t.pc, .int .i64 t.rc, .int .i64 t.sq, .int .i64 t.wo, .int .i64 t.lk, .int .i64 t.cu, .int .i64 t.pv, .int .i64 t.nt, .int .i64 t.mx, .int .i64 t.ps, .int .i64 t.rn, .slice ao n cap] from rfl] at CB
  obtain ⟨T4, hT4⟩ : ∃ T4 : Th, byT t = T4 := ⟨_, rfl⟩
  rw [hT4] at CB HEQ
  rw [show thV T4 (.slice ao n cap) = .agg #[.int .i64 T4.ti, .int .i64 T4.pc, .int .i64 T4.rc, .int .i64 T4.sq, .int .i64 T4.wo, .int .i64 T4.lk, .int .i64 T4.cu, .int .i64 T4.pv, .int .i64 T4.nt, .int .i64 T4.mx, .int .i64 T4.ps, .int .i64 T4.rn, .slice ao n cap] from rfl] at CB
  have HCB := Lib.hid CB
  clear CB hT4
  have m := HF.out.m
  have m0 := m.c0
  have m1 := m.c1
  have m2 := m.c2
  have x := HF.out.x
  have c0 := x.c0
  have c1 := x.c1
  have c2 := x.c2
  have c3 := x.c3
  have c4 := x.c4
  have c5 := x.c5
  have c6 := x.c6
  have c7 := x.c7
  have c8 := x.c8
  have c9 := x.c9
  have c10 := x.c10
  have c11 := x.c11
  have c12 := x.c12
  have y := HF.out.y
  have y0 := y.c0
  have y1 := y.c1
  have y2 := y.c2
  have yf := y.f
  have z := HF.out.z
  have r0 := z.c0
  have r1 := z.c1
  have r2 := z.c2
  have r3 := z.c3
  have r4 := z.c4
  have r5 := z.c5
  have r6 := z.c6
  have r7 := z.c7
  have r8 := z.c8
  have r9 := z.c9
  have r10 := z.c10
  have r11 := z.c11
  have r12 := z.c12
  have zf := z.f
  clear m x y z
  go_region_with ((with_reducible refine HCB.out.mono ?_); rintro e w5 ⟨rfl, hb⟩; have HG := Lib.hid (HFd.out.fresh hb); clear hb m0 m1 m2 c0 c1 c2 c3 c4 c5 c6 c7 c8 c9 c10 c11 c12 y0 y1 y2 yf r0 r1 r2 r3 r4 r5 r6 r7 r8 r9 r10 r11 r12 zf; have m := HG.out.m; have m0 := m.c0; have m1 := m.c1; have m2 := m.c2; have x := HG.out.x; have c0 := x.c0; have c1 := x.c1; have c2 := x.c2; have c3 := x.c3; have c4 := x.c4; have c5 := x.c5; have c6 := x.c6; have c7 := x.c7; have c8 := x.c8; have c9 := x.c9; have c10 := x.c10; have c11 := x.c11; have c12 := x.c12; have y := HG.out.y; have y0 := y.c0; have y1 := y.c1; have y2 := y.c2; have yf := y.f; have z := HG.out.z; have r0 := z.c0; have r1 := z.c1; have r2 := z.c2; have r3 := z.c3; have r4 := z.c4; have r5 := z.c5; have r6 := z.c6; have r7 := z.c7; have r8 := z.c8; have r9 := z.c9; have r10 := z.c10; have r11 := z.c11; have r12 := z.c12; have zf := z.f; clear m x y z)
  all_goals (
    go_wp2
    change bodyPost _ _ _ _ _ (setT (setM w5 (w.heap.size + 1 + 1) (.int .i64 size) (.slice a2 Z2.length q2) (.int .i64 s4)) (w.heap.size + 1 + 1 + 1) T4 (.slice ao n cap))
    have FIN := HG.out.finY T4
    generalize setT (setM w5 (w.heap.size + 1 + 1) (.int .i64 size) (.slice a2 Z2.length q2) (.int .i64 s4)) (w.heap.size + 1 + 1 + 1) T4 (.slice ao n cap) = wf at *
    obtain ⟨gm, gx, o', l', b'⟩ := FIN
    refine bodyPost_ret (v := .tuple #[.agg #[.int .i64 size, (.slice a2 Z2.length q2), .int .i64 s4], thV T4 (.slice ao n cap)]) (by simp [results, Try.results29, go_sem, thV, gm.c0, gm.c1, gm.c2, gx.c0, gx.c1, gx.c2, gx.c3, gx.c4, gx.c5, gx.c6, gx.c7, gx.c8, gx.c9, gx.c10, gx.c11, gx.c12]) rfl ?_
    refine ⟨_, HEQ.out, ?_⟩
    rw [HZQ.out]
    exact ⟨o', l', b'⟩)
end

end Go.Proofs.Ytfnjbbokbdddpaa.M2
