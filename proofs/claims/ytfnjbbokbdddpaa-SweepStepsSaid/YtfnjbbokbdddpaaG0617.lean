/-
  by and load of reaperref17. Conditions: a document's memory of at most 1000 cells; steps below a million. seek of reaperref17. Conditions: a document's memory of at most 1000 cells; steps below a million. Step of reaperref17. Conditions: a document's memory of at most 1000 cells; steps below a million.
-/
import Derived.Test.YtfnjbbokbdddpaaG0517
namespace Go.Proofs.Ytfnjbbokbdddpaa.M2
open Go.RowKit

section
variable {w : World} {B : Nat} {u : Value} {size : Int} {zs : List Int} {st : Int} {t : Th}

set_option maxRecDepth 100000 in
set_option maxHeartbeats 1600000 in
theorem refBy (w : World) (t : Th) (ao : Option Addr) (n cap : Nat) : Calls Try.prog 49 #[thV t (.slice ao n cap)] w fun e w' => e = .returned (thV (byT t) (.slice ao n cap)) ∧ Below w.heap.size w w' := by
  rw [show thV t (.slice ao n cap) = .agg #[.int .i64 t.ti, .int .i64 t.pc, .int .i64 t.rc, .int .i64 t.sq, .int .i64 t.wo, .int .i64 t.lk, .int .i64 t.cu, .int .i64 t.pv, .int .i64 t.nt, .int .i64 t.mx, .int .i64 t.ps, .int .i64 t.rn, .slice ao n cap] from rfl]
  obtain ⟨W, hW⟩ : ∃ W, (w.alloc (.cells #[.int .i64 t.ti, .int .i64 t.pc, .int .i64 t.rc, .int .i64 t.sq, .int .i64 t.wo, .int .i64 t.lk, .int .i64 t.cu, .int .i64 t.pv, .int .i64 t.nt, .int .i64 t.mx, .int .i64 t.ps, .int .i64 t.rn, .slice ao n cap] 25)).alloc (.cells #[.int .i64 0, .int .i64 0, .int .i64 0, .int .i64 0, .int .i64 0, .int .i64 0, .int .i64 0, .int .i64 0, .int .i64 0, .int .i64 0, .int .i64 0, .int .i64 0, .slice none 0 0] 25) = W := ⟨_, rfl⟩
  have HX := Lib.hid (show TX W w.heap.size t (.slice ao n cap) by subst hW; exact (TX.new w t _).alloc _)
  have HY := Lib.hid (show TX W (w.heap.size + 1) t0 (.slice none 0 0) by
    subst hW
    have := TX.new (w.alloc (.cells #[.int .i64 t.ti, .int .i64 t.pc, .int .i64 t.rc, .int .i64 t.sq, .int .i64 t.wo, .int .i64 t.lk, .int .i64 t.cu, .int .i64 t.pv, .int .i64 t.nt, .int .i64 t.mx, .int .i64 t.ps, .int .i64 t.rn, .slice ao n cap] 25)) t0 (.slice none 0 0)
    simpa [t0] using this)
  have HB := Lib.hid (show Below w.heap.size w W by subst hW; exact ((Below.refl _ _).alloc (Nat.le_refl _) _).alloc (by simp) _)
  have HW := Lib.hid hW
  clear hW
  go_enter Try.func49, Try.ntmps49
  go_upto_region 1 with (fail)
  rw [HW.out]
  clear HW
  have x6 := HX.out.c6
  have x7 := HX.out.c7
  have xf := HX.out.f
  go_upto_region 2 with (fail)
  have HX2 := Lib.hid (HX.out.s7 t.cu)
  have HY2 := Lib.hid (HY.out.other (q := ⟨w.heap.size, 7, none⟩) (by simp) (.int .i64 t.cu))
  have HB2 := Lib.hid (HB.out.setCell (p := ⟨w.heap.size, 7, none⟩) (Nat.le_refl _) (.int .i64 t.cu))
  generalize hV : W.setCell ⟨w.heap.size, 7, none⟩ (.int .i64 t.cu) = V at *
  clear x6 x7 xf hV HX HY HB
  have x1 := HX2.out.c1
  have xf := HX2.out.f
  go_upto_region 3 with (fail)
  have HX3 := Lib.hid (show TX _ _ (byT t) _ from HX2.out.s1 41)
  have HY3 := Lib.hid (HY2.out.other (q := ⟨w.heap.size, 1, none⟩) (by simp) (.int .i64 41))
  have HB3 := Lib.hid (HB2.out.setCell (p := ⟨w.heap.size, 1, none⟩) (Nat.le_refl _) (.int .i64 41))
  generalize hV : V.setCell ⟨w.heap.size, 1, none⟩ (.int .i64 41) = V2 at *
  clear x1 xf hV HX2 HY2 HB2
  obtain ⟨T, hT⟩ : ∃ T, byT t = T := ⟨_, rfl⟩
  rw [hT] at HX3
  have HTE := Lib.hid hT
  clear hT
  have x := HX3.out
  have c0 := x.c0
  have c1 := x.c1
  have c2 := x.c2
  have c3 := x.c3
  have c4 := x.c4
  have c5 := x.c5
  have c6 := x.c6
  have c7 := x.c7
  have c8 := x.c8
  have c9 := x.c9
  have c10 := x.c10
  have c11 := x.c11
  have c12 := x.c12
  have y := HY3.out
  have yf := y.f
  have r0 := y.c0
  have r1 := y.c1
  have r2 := y.c2
  have r3 := y.c3
  have r4 := y.c4
  have r5 := y.c5
  have r6 := y.c6
  have r7 := y.c7
  have r8 := y.c8
  have r9 := y.c9
  have r10 := y.c10
  have r11 := y.c11
  have r12 := y.c12
  clear x y
  go_wp2
  change bodyPost _ _ _ _ _ (setT V2 (w.heap.size + 1) T (.slice ao n cap))
  have Z := HY3.out.all T (.slice ao n cap)
  refine bodyPost_ret (v := thV T (.slice ao n cap)) (by simp [results, Try.results49, go_sem, thV, Z.c0, Z.c1, Z.c2, Z.c3, Z.c4, Z.c5, Z.c6, Z.c7, Z.c8, Z.c9, Z.c10, Z.c11, Z.c12]) rfl ⟨by rw [HTE.out], setT_below HB3.out (by omega) _ _⟩

set_option maxRecDepth 100000 in
set_option maxHeartbeats 16000000 in
theorem refLd (h : w.ownsRow B 2 1 u zs.length (zs.map (Value.int .i64))) (hB : B ≤ w.heap.size) (hl : zs.length ≤ 1000) (ao : Option Addr) (n cap : Nat) (a : Int) (k0 : 0 ≤ st) (k1 : st < 1000000) :
    Calls Try.prog 50 #[.agg #[.int .i64 size, u, .int .i64 st], thV t (.slice ao n cap), .int .i64 a] w (RQ w B u size (.slice ao n cap) ⟨{ t with lk := ld zs a }, zs, cn zs a⟩ st) := by
  obtain ⟨au, cu, rfl⟩ := ownShape h
  rw [show thV t (.slice ao n cap) = .agg #[.int .i64 t.ti, .int .i64 t.pc, .int .i64 t.rc, .int .i64 t.sq, .int .i64 t.wo, .int .i64 t.lk, .int .i64 t.cu, .int .i64 t.pv, .int .i64 t.nt, .int .i64 t.mx, .int .i64 t.ps, .int .i64 t.rn, .slice ao n cap] from rfl]
  have HL := Lib.hid hl
  have HBB := Lib.hid hB
  obtain ⟨W, hW⟩ : ∃ W, (((w.alloc (.cells #[.int .i64 size, .slice au zs.length cu, .int .i64 st] 39)).alloc (.cells #[.int .i64 t.ti, .int .i64 t.pc, .int .i64 t.rc, .int .i64 t.sq, .int .i64 t.wo, .int .i64 t.lk, .int .i64 t.cu, .int .i64 t.pv, .int .i64 t.nt, .int .i64 t.mx, .int .i64 t.ps, .int .i64 t.rn, .slice ao n cap] 25)).alloc (.cells #[.int .i64 0, .slice none 0 0, .int .i64 0] 39)).alloc (.cells #[.int .i64 0, .int .i64 0, .int .i64 0, .int .i64 0, .int .i64 0, .int .i64 0, .int .i64 0, .int .i64 0, .int .i64 0, .int .i64 0, .int .i64 0, .int .i64 0, .slice none 0 0] 25) = W := ⟨_, rfl⟩
  have HP := Lib.hid (PB.new h t (.slice ao n cap) W hW)
  have HW := Lib.hid hW
  clear hW h hl hB
  go_enter Try.func50, Try.ntmps50
  go_upto_region 1 with (fail)
  rw [HW.out]
  clear HW
  have m0 := HP.out.m.c0
  have m1 := HP.out.m.c1
  have m2 := HP.out.m.c2
  have C := Lib.hid (refLoadD (size := size) HP.out.o (Nat.le_trans HBB.out HP.out.b.size) a k0 k1)
  go_wp2_with fail
  with_reducible refine C.out.mono ?_
  clear C m0 m1 m2
  rintro e w2 ⟨u', rfl, l2⟩
  obtain ⟨a2, q2, rfl⟩ := ownShape l2.1
  go_upto_region 2 with (fail)
  generalize hW3 : w2.alloc (.cells #[.int .i64 size, .slice a2 zs.length q2, .int .i64 (st + cn zs a)] 39) = w3
  have HF := Lib.hid (HP.out.call l2 hW3)
  clear hW3 l2 HP
  generalize w2.heap.size = NN at *
  have yy := HF.out.x.c5
  have yf := HF.out.x.f
  go_upto_region 3 with (fail)
  have HF' := Lib.hid (HF.out.set (HF.out.x.s5 (ld zs a)))
  clear HF yy yf
  generalize hV : w3.setCell ⟨w.heap.size + 1, 5, none⟩ (.int .i64 (ld zs a)) = v1
  rw [hV] at HF'
  have HF := HF'
  clear HF' hV
  obtain ⟨T4, hT4⟩ : ∃ T4 : Th, ({ t with lk := ld zs a } : Th) = T4 := ⟨_, rfl⟩
  obtain ⟨s4, hs4⟩ : ∃ s4 : Int, st + cn zs a = s4 := ⟨_, rfl⟩
  have HFF := HF.out
  rw [hT4] at HFF
  rw [hs4] at HFF ⊢
  have HEQ := Lib.hid (show Ending.returned (.tuple #[.agg #[.int .i64 size, (.slice a2 zs.length q2), .int .i64 s4], thV T4 (.slice ao n cap)]) = .returned (.tuple #[.agg #[.int .i64 size, (.slice a2 zs.length q2), .int .i64 (st + ((⟨{ t with lk := ld zs a }, zs, cn zs a⟩ : Sw)).c)], thV ((⟨{ t with lk := ld zs a }, zs, cn zs a⟩ : Sw)).t (.slice ao n cap)]) by rw [← hs4, ← hT4])
  replace HF := Lib.hid HFF
  clear hT4 hs4 HFF
  have m := HF.out.m
  have m0 := m.c0
  have m1 := m.c1
  have m2 := m.c2
  have x := HF.out.x
  have c0 := x.c0
  have c1 := x.c1
  have c2 := x.c2
  have c3 := x.c3
  have c4 := x.c4
  have c5 := x.c5
  have c6 := x.c6
  have c7 := x.c7
  have c8 := x.c8
  have c9 := x.c9
  have c10 := x.c10
  have c11 := x.c11
  have c12 := x.c12
  have y := HF.out.y
  have y0 := y.c0
  have y1 := y.c1
  have y2 := y.c2
  have yf := y.f
  have z := HF.out.z
  have r0 := z.c0
  have r1 := z.c1
  have r2 := z.c2
  have r3 := z.c3
  have r4 := z.c4
  have r5 := z.c5
  have r6 := z.c6
  have r7 := z.c7
  have r8 := z.c8
  have r9 := z.c9
  have r10 := z.c10
  have r11 := z.c11
  have r12 := z.c12
  have zf := z.f
  have FIN := HF.out.fin
  clear m x y z
  go_region
  go_wp2
  change bodyPost _ _ _ _ _ (setT (setM v1 (w.heap.size + 1 + 1) (.int .i64 size) (.slice a2 zs.length q2) (.int .i64 s4)) (w.heap.size + 1 + 1 + 1) T4 (.slice ao n cap)).drew
  generalize setT (setM v1 (w.heap.size + 1 + 1) (.int .i64 size) (.slice a2 zs.length q2) (.int .i64 s4)) (w.heap.size + 1 + 1 + 1) T4 (.slice ao n cap) = wf at *
  obtain ⟨fm, fx, o', l', b'⟩ := FIN
  have gm : Boxed wf.drew (w.heap.size + 1 + 1) (.int .i64 size) (.slice a2 zs.length q2) (.int .i64 s4) := fm
  have gx := fx.drew
  refine bodyPost_ret (v := .tuple #[.agg #[.int .i64 size, (.slice a2 zs.length q2), .int .i64 s4], thV T4 (.slice ao n cap)]) (by simp [results, Try.results50, go_sem, thV, gm.c0, gm.c1, gm.c2, gx.c0, gx.c1, gx.c2, gx.c3, gx.c4, gx.c5, gx.c6, gx.c7, gx.c8, gx.c9, gx.c10, gx.c11, gx.c12]) rfl ?_
  refine ⟨_, HEQ.out, ?_⟩
  exact ⟨own_at o' (fun _ _ _ => rfl), l', b'.drew⟩
end

end Go.Proofs.Ytfnjbbokbdddpaa.M2
namespace Go.Proofs.Ytfnjbbokbdddpaa.M2
open Go.RowKit

section
variable {w : World} {B : Nat} {u : Value} {size : Int} {zs : List Int} {st : Int} {t : Th}

set_option maxRecDepth 100000 in
set_option maxHeartbeats 16000000 in
theorem seek40z (h : w.ownsRow B 2 1 u zs.length (zs.map (Value.int .i64))) (hB : B ≤ w.heap.size) (hl : zs.length ≤ 1000) (ao : Option Addr) (n cap : Nat) (ag : Int) (hp : t.pc = 40) (hz : ld zs 1 = 0) (k0 : 0 ≤ st) (k1 : st < 1000000) :
    Calls Try.prog 47 #[.agg #[.int .i64 size, u, .int .i64 st], .int .i64 ag, thV t (.slice ao n cap)] w (RQ w B u size (.slice ao n cap) (swt ag t zs) st) := by
  obtain ⟨au, cu, rfl⟩ := ownShape h
  rw [show thV t (.slice ao n cap) = .agg #[.int .i64 t.ti, .int .i64 t.pc, .int .i64 t.rc, .int .i64 t.sq, .int .i64 t.wo, .int .i64 t.lk, .int .i64 t.cu, .int .i64 t.pv, .int .i64 t.nt, .int .i64 t.mx, .int .i64 t.ps, .int .i64 t.rn, .slice ao n cap] from rfl]
  have HL := Lib.hid hl
  have HBB := Lib.hid hB
  have HSW := Lib.hid (show swt ag t zs = ⟨{ t with lk := ld zs 1, pc := 48 }, zs, cn zs (1 : Int)⟩ by rw [swt40 ag t zs hp]; rw [if_pos hz]; rw [hz])
  have C0 := fun (W : World) (h : W.ownsRow B 2 1 (.slice au zs.length cu) zs.length (zs.map (Value.int .i64))) (hb : B ≤ W.heap.size) => refLd (size := size) (st := st) h hb hl ao n cap (t := t) (1 : Int) k0 k1
  obtain ⟨L, hLL⟩ : ∃ L, ld zs (1 : Int) = L := ⟨_, rfl⟩
  rw [hLL] at HSW C0 hz
  subst hz
  have HC0 := Lib.hid C0
  have HPC := Lib.hid hp
  clear C0 hLL hp
  obtain ⟨W, hW⟩ : ∃ W, (((w.alloc (.cells #[.int .i64 size, .slice au zs.length cu, .int .i64 st] 39)).alloc (.cells #[.int .i64 t.ti, .int .i64 t.pc, .int .i64 t.rc, .int .i64 t.sq, .int .i64 t.wo, .int .i64 t.lk, .int .i64 t.cu, .int .i64 t.pv, .int .i64 t.nt, .int .i64 t.mx, .int .i64 t.ps, .int .i64 t.rn, .slice ao n cap] 25)).alloc (.cells #[.int .i64 0, .slice none 0 0, .int .i64 0] 39)).alloc (.cells #[.int .i64 0, .int .i64 0, .int .i64 0, .int .i64 0, .int .i64 0, .int .i64 0, .int .i64 0, .int .i64 0, .int .i64 0, .int .i64 0, .int .i64 0, .int .i64 0, .slice none 0 0] 25) = W := ⟨_, rfl⟩
  have HP := Lib.hid (PB.new h t (.slice ao n cap) W hW)
  have HW := Lib.hid hW
  clear hW h hl hB
  go_enter Try.func47, Try.ntmps47
  go_upto_region 1 with (fail)
  rw [HW.out]
  clear HW
  have x1 := HP.out.x.c1
  rw [HPC.out] at x1
  go_upto_region 3 with (fail)
  clear x1
  have m0 := HP.out.m.c0
  have m1 := HP.out.m.c1
  have m2 := HP.out.m.c2
  have x := HP.out.x
  have c0 := x.c0
  have c1 := x.c1
  have c2 := x.c2
  have c3 := x.c3
  have c4 := x.c4
  have c5 := x.c5
  have c6 := x.c6
  have c7 := x.c7
  have c8 := x.c8
  have c9 := x.c9
  have c10 := x.c10
  have c11 := x.c11
  have c12 := x.c12
  have C := HC0.out _ HP.out.o (Nat.le_trans HBB.out HP.out.b.size)
  rw [show thV t (.slice ao n cap) = .agg #[.int .i64 t.ti, .int .i64 t.pc, .int .i64 t.rc, .int .i64 t.sq, .int .i64 t.wo, .int .i64 t.lk, .int .i64 t.cu, .int .i64 t.pv, .int .i64 t.nt, .int .i64 t.mx, .int .i64 t.ps, .int .i64 t.rn, .slice ao n cap] from rfl, show (1 : Int) = (1 : Int) from rfl] at C
  have HC := Lib.hid C
  clear x C HC0
  go_wp2_with fail
  with_reducible refine HC.out.mono ?_
  clear HC m0 m1 m2 c0 c1 c2 c3 c4 c5 c6 c7 c8 c9 c10 c11 c12
  rintro e w2 ⟨u', rfl, l2⟩
  dsimp only at l2
  obtain ⟨a2, q2, rfl⟩ := ownShape l2.1
  rw [show thV ({ t with lk := 0 } : Th) (.slice ao n cap) = .agg #[.int .i64 t.ti, .int .i64 t.pc, .int .i64 t.rc, .int .i64 t.sq, .int .i64 t.wo, .int .i64 0, .int .i64 t.cu, .int .i64 t.pv, .int .i64 t.nt, .int .i64 t.mx, .int .i64 t.ps, .int .i64 t.rn, .slice ao n cap] from rfl, show (1 : Int) = (1 : Int) from rfl]
  dsimp only
  go_upto_region 4 with (fail)
  generalize hW3 : (w2.alloc (.cells #[.int .i64 size, .slice a2 zs.length q2, .int .i64 (st + cn zs (1 : Int))] 39)).alloc (.cells #[.int .i64 t.ti, .int .i64 t.pc, .int .i64 t.rc, .int .i64 t.sq, .int .i64 t.wo, .int .i64 0, .int .i64 t.cu, .int .i64 t.pv, .int .i64 t.nt, .int .i64 t.mx, .int .i64 t.ps, .int .i64 t.rn, .slice ao n cap] 25) = w3
  have HF := Lib.hid (HP.out.callT (T := { t with lk := 0 }) l2 hW3)
  have hNN : w.heap.size + 4 ≤ w2.heap.size := by have := l2.2.2.size; have := HP.out.s; omega
  clear hW3 l2 HP
  generalize w2.heap.size = NN at *
  have hn1 : ¬ NN + 1 = w.heap.size + 1 + 1 := by omega
  have hn2 : ¬ w.heap.size + 1 + 1 = NN + 1 := by omega
  have hn3 : ¬ NN + 1 = w.heap.size + 1 + 1 + 1 := by omega
  have hn4 : ¬ w.heap.size + 1 + 1 + 1 = NN + 1 := by omega
  have hn5 : ¬ NN = w.heap.size + 1 + 1 := by omega
  have hn6 : ¬ NN = w.heap.size + 1 + 1 + 1 := by omega
  clear hNN
  have yy := HF.out.x.c1
  have y5 := HF.out.x.c5
  have yf := HF.out.x.f
  go_upto_region 5 with (fail)
  have HF' := Lib.hid (HF.out.set (HF.out.x.s1 48))
  clear HF yy y5 yf
  generalize hV : w3.setCell ⟨NN + 1, 1, none⟩ (.int .i64 48) = v1
  rw [hV] at HF'
  have HF := HF'
  clear HF' hV
  have y5 := HF.out.x.c5
  have y10 := HF.out.x.c10
  go_upto_region 8 with (fail)
  clear y5 y10
  obtain ⟨T4, hT4⟩ : ∃ T4 : Th, ({ t with lk := 0, pc := 48 } : Th) = T4 := ⟨_, rfl⟩
  obtain ⟨s4, hs4⟩ : ∃ s4 : Int, st + cn zs (1 : Int) = s4 := ⟨_, rfl⟩
  have HFF := HF.out
  rw [hT4] at HFF
  rw [hs4] at HFF ⊢
  have HEQ := Lib.hid (show Ending.returned (.tuple #[.agg #[.int .i64 size, (.slice a2 zs.length q2), .int .i64 s4], thV T4 (.slice ao n cap)]) = .returned (.tuple #[.agg #[.int .i64 size, (.slice a2 zs.length q2), .int .i64 (st + ((swt ag t zs)).c)], thV ((swt ag t zs)).t (.slice ao n cap)]) by rw [← hs4, ← hT4, HSW.out])
  replace HF := Lib.hid HFF
  have HZQ := Lib.hid (show (swt ag t zs).zs = zs by rw [HSW.out])
  clear hT4 hs4 HFF
  have m := HF.out.m
  have m0 := m.c0
  have m1 := m.c1
  have m2 := m.c2
  have x := HF.out.x
  have c0 := x.c0
  have c1 := x.c1
  have c2 := x.c2
  have c3 := x.c3
  have c4 := x.c4
  have c5 := x.c5
  have c6 := x.c6
  have c7 := x.c7
  have c8 := x.c8
  have c9 := x.c9
  have c10 := x.c10
  have c11 := x.c11
  have c12 := x.c12
  have y := HF.out.y
  have y0 := y.c0
  have y1 := y.c1
  have y2 := y.c2
  have yf := y.f
  have z := HF.out.z
  have r0 := z.c0
  have r1 := z.c1
  have r2 := z.c2
  have r3 := z.c3
  have r4 := z.c4
  have r5 := z.c5
  have r6 := z.c6
  have r7 := z.c7
  have r8 := z.c8
  have r9 := z.c9
  have r10 := z.c10
  have r11 := z.c11
  have r12 := z.c12
  have zf := z.f
  have FIN := HF.out.fin
  clear m x y z
  go_region
  go_wp2
  change bodyPost _ _ _ _ _ (setT (setM v1 (w.heap.size + 1 + 1) (.int .i64 size) (.slice a2 zs.length q2) (.int .i64 s4)) (w.heap.size + 1 + 1 + 1) T4 (.slice ao n cap)).drew
  generalize setT (setM v1 (w.heap.size + 1 + 1) (.int .i64 size) (.slice a2 zs.length q2) (.int .i64 s4)) (w.heap.size + 1 + 1 + 1) T4 (.slice ao n cap) = wf at *
  obtain ⟨fm, fx, o', l', b'⟩ := FIN
  have gm : Boxed wf.drew (w.heap.size + 1 + 1) (.int .i64 size) (.slice a2 zs.length q2) (.int .i64 s4) := fm
  have gx := fx.drew
  refine bodyPost_ret (v := .tuple #[.agg #[.int .i64 size, (.slice a2 zs.length q2), .int .i64 s4], thV T4 (.slice ao n cap)]) (by simp [results, Try.results47, go_sem, thV, gm.c0, gm.c1, gm.c2, gx.c0, gx.c1, gx.c2, gx.c3, gx.c4, gx.c5, gx.c6, gx.c7, gx.c8, gx.c9, gx.c10, gx.c11, gx.c12]) rfl ?_
  refine ⟨_, HEQ.out, ?_⟩
  rw [HZQ.out]
  exact ⟨own_at o' (fun _ _ _ => rfl), l', b'.drew⟩

set_option maxRecDepth 100000 in
set_option maxHeartbeats 16000000 in
theorem seek40n (h : w.ownsRow B 2 1 u zs.length (zs.map (Value.int .i64))) (hB : B ≤ w.heap.size) (hl : zs.length ≤ 1000) (ao : Option Addr) (n cap : Nat) (ag : Int) (hp : t.pc = 40) (hz : ld zs 1 ≠ 0) (k0 : 0 ≤ st) (k1 : st < 1000000) :
    Calls Try.prog 47 #[.agg #[.int .i64 size, u, .int .i64 st], .int .i64 ag, thV t (.slice ao n cap)] w (RQ w B u size (.slice ao n cap) (swt ag t zs) st) := by
  obtain ⟨au, cu, rfl⟩ := ownShape h
  rw [show thV t (.slice ao n cap) = .agg #[.int .i64 t.ti, .int .i64 t.pc, .int .i64 t.rc, .int .i64 t.sq, .int .i64 t.wo, .int .i64 t.lk, .int .i64 t.cu, .int .i64 t.pv, .int .i64 t.nt, .int .i64 t.mx, .int .i64 t.ps, .int .i64 t.rn, .slice ao n cap] from rfl]
  have HL := Lib.hid hl
  have HBB := Lib.hid hB
  have HSW := Lib.hid (show swt ag t zs = ⟨{ t with lk := ld zs 1, pv := ld zs 1, pc := 41 }, zs, cn zs (1 : Int)⟩ by rw [swt40 ag t zs hp]; rw [if_neg hz])
  have C0 := fun (W : World) (h : W.ownsRow B 2 1 (.slice au zs.length cu) zs.length (zs.map (Value.int .i64))) (hb : B ≤ W.heap.size) => refLd (size := size) (st := st) h hb hl ao n cap (t := t) (1 : Int) k0 k1
  obtain ⟨L, hLL⟩ : ∃ L, ld zs (1 : Int) = L := ⟨_, rfl⟩
  rw [hLL] at HSW C0 hz
  have HC0 := Lib.hid C0
  have HZ0 := Lib.hid hz
  have HPC := Lib.hid hp
  clear C0 hLL hp
  obtain ⟨W, hW⟩ : ∃ W, (((w.alloc (.cells #[.int .i64 size, .slice au zs.length cu, .int .i64 st] 39)).alloc (.cells #[.int .i64 t.ti, .int .i64 t.pc, .int .i64 t.rc, .int .i64 t.sq, .int .i64 t.wo, .int .i64 t.lk, .int .i64 t.cu, .int .i64 t.pv, .int .i64 t.nt, .int .i64 t.mx, .int .i64 t.ps, .int .i64 t.rn, .slice ao n cap] 25)).alloc (.cells #[.int .i64 0, .slice none 0 0, .int .i64 0] 39)).alloc (.cells #[.int .i64 0, .int .i64 0, .int .i64 0, .int .i64 0, .int .i64 0, .int .i64 0, .int .i64 0, .int .i64 0, .int .i64 0, .int .i64 0, .int .i64 0, .int .i64 0, .slice none 0 0] 25) = W := ⟨_, rfl⟩
  have HP := Lib.hid (PB.new h t (.slice ao n cap) W hW)
  have HW := Lib.hid hW
  clear hW h hl hB
  go_enter Try.func47, Try.ntmps47
  go_upto_region 1 with (fail)
  rw [HW.out]
  clear HW
  have x1 := HP.out.x.c1
  rw [HPC.out] at x1
  go_upto_region 3 with (fail)
  clear x1
  have m0 := HP.out.m.c0
  have m1 := HP.out.m.c1
  have m2 := HP.out.m.c2
  have x := HP.out.x
  have c0 := x.c0
  have c1 := x.c1
  have c2 := x.c2
  have c3 := x.c3
  have c4 := x.c4
  have c5 := x.c5
  have c6 := x.c6
  have c7 := x.c7
  have c8 := x.c8
  have c9 := x.c9
  have c10 := x.c10
  have c11 := x.c11
  have c12 := x.c12
  have C := HC0.out _ HP.out.o (Nat.le_trans HBB.out HP.out.b.size)
  rw [show thV t (.slice ao n cap) = .agg #[.int .i64 t.ti, .int .i64 t.pc, .int .i64 t.rc, .int .i64 t.sq, .int .i64 t.wo, .int .i64 t.lk, .int .i64 t.cu, .int .i64 t.pv, .int .i64 t.nt, .int .i64 t.mx, .int .i64 t.ps, .int .i64 t.rn, .slice ao n cap] from rfl, show (1 : Int) = (1 : Int) from rfl] at C
  have HC := Lib.hid C
  clear x C HC0
  go_wp2_with fail
  with_reducible refine HC.out.mono ?_
  clear HC m0 m1 m2 c0 c1 c2 c3 c4 c5 c6 c7 c8 c9 c10 c11 c12
  rintro e w2 ⟨u', rfl, l2⟩
  dsimp only at l2
  obtain ⟨a2, q2, rfl⟩ := ownShape l2.1
  rw [show thV ({ t with lk := L } : Th) (.slice ao n cap) = .agg #[.int .i64 t.ti, .int .i64 t.pc, .int .i64 t.rc, .int .i64 t.sq, .int .i64 t.wo, .int .i64 L, .int .i64 t.cu, .int .i64 t.pv, .int .i64 t.nt, .int .i64 t.mx, .int .i64 t.ps, .int .i64 t.rn, .slice ao n cap] from rfl, show (1 : Int) = (1 : Int) from rfl]
  dsimp only
  go_upto_region 4 with (fail)
  generalize hW3 : (w2.alloc (.cells #[.int .i64 size, .slice a2 zs.length q2, .int .i64 (st + cn zs (1 : Int))] 39)).alloc (.cells #[.int .i64 t.ti, .int .i64 t.pc, .int .i64 t.rc, .int .i64 t.sq, .int .i64 t.wo, .int .i64 L, .int .i64 t.cu, .int .i64 t.pv, .int .i64 t.nt, .int .i64 t.mx, .int .i64 t.ps, .int .i64 t.rn, .slice ao n cap] 25) = w3
  have HF := Lib.hid (HP.out.callT (T := { t with lk := L }) l2 hW3)
  have hNN : w.heap.size + 4 ≤ w2.heap.size := by have := l2.2.2.size; have := HP.out.s; omega
  clear hW3 l2 HP
  generalize w2.heap.size = NN at *
  have hn1 : ¬ NN + 1 = w.heap.size + 1 + 1 := by omega
  have hn2 : ¬ w.heap.size + 1 + 1 = NN + 1 := by omega
  have hn3 : ¬ NN + 1 = w.heap.size + 1 + 1 + 1 := by omega
  have hn4 : ¬ w.heap.size + 1 + 1 + 1 = NN + 1 := by omega
  have hn5 : ¬ NN = w.heap.size + 1 + 1 := by omega
  have hn6 : ¬ NN = w.heap.size + 1 + 1 + 1 := by omega
  clear hNN
  have hz := HZ0.out
  have hzb := hz
  try have hz2 : (L == 0) = false := by simpa using hz
  try have hz3 : (L != 0) = true := by simpa using hz
  have yy := HF.out.x.c1
  have y5 := HF.out.x.c5
  have yf := HF.out.x.f
  go_upto_region 5 with (fail)
  have HF' := Lib.hid (HF.out.set (HF.out.x.s1 48))
  clear HF yy y5 yf
  generalize hV : w3.setCell ⟨NN + 1, 1, none⟩ (.int .i64 48) = v1
  rw [hV] at HF'
  have HF := HF'
  clear HF' hV
  have y5 := HF.out.x.c5
  have y10 := HF.out.x.c10
  go_upto_region 6 with (fail)
  clear y5 y10
  have yy := HF.out.x.c7
  have y5 := HF.out.x.c5
  have yf := HF.out.x.f
  go_upto_region 7 with (fail)
  have HF' := Lib.hid (HF.out.set (HF.out.x.s7 L))
  clear HF yy y5 yf
  generalize hV : v1.setCell ⟨NN + 1, 7, none⟩ (.int .i64 L) = v3
  rw [hV] at HF'
  have HF := HF'
  clear HF' hV
  have yy := HF.out.x.c1
  have y5 := HF.out.x.c5
  have yf := HF.out.x.f
  go_upto_region 8 with (fail)
  have HF' := Lib.hid (HF.out.set (HF.out.x.s1 41))
  clear HF yy y5 yf
  generalize hV : v3.setCell ⟨NN + 1, 1, none⟩ (.int .i64 41) = v4
  rw [hV] at HF'
  have HF := HF'
  clear HF' hV
  clear hz hzb
  try clear hz2 hz3
  obtain ⟨T4, hT4⟩ : ∃ T4 : Th, ({ t with lk := L, pv := L, pc := 41 } : Th) = T4 := ⟨_, rfl⟩
  obtain ⟨s4, hs4⟩ : ∃ s4 : Int, st + cn zs (1 : Int) = s4 := ⟨_, rfl⟩
  have HFF := HF.out
  rw [hT4] at HFF
  rw [hs4] at HFF ⊢
  have HEQ := Lib.hid (show Ending.returned (.tuple #[.agg #[.int .i64 size, (.slice a2 zs.length q2), .int .i64 s4], thV T4 (.slice ao n cap)]) = .returned (.tuple #[.agg #[.int .i64 size, (.slice a2 zs.length q2), .int .i64 (st + ((swt ag t zs)).c)], thV ((swt ag t zs)).t (.slice ao n cap)]) by rw [← hs4, ← hT4, HSW.out])
  replace HF := Lib.hid HFF
  have HZQ := Lib.hid (show (swt ag t zs).zs = zs by rw [HSW.out])
  clear hT4 hs4 HFF
  have m := HF.out.m
  have m0 := m.c0
  have m1 := m.c1
  have m2 := m.c2
  have x := HF.out.x
  have c0 := x.c0
  have c1 := x.c1
  have c2 := x.c2
  have c3 := x.c3
  have c4 := x.c4
  have c5 := x.c5
  have c6 := x.c6
  have c7 := x.c7
  have c8 := x.c8
  have c9 := x.c9
  have c10 := x.c10
  have c11 := x.c11
  have c12 := x.c12
  have y := HF.out.y
  have y0 := y.c0
  have y1 := y.c1
  have y2 := y.c2
  have yf := y.f
  have z := HF.out.z
  have r0 := z.c0
  have r1 := z.c1
  have r2 := z.c2
  have r3 := z.c3
  have r4 := z.c4
  have r5 := z.c5
  have r6 := z.c6
  have r7 := z.c7
  have r8 := z.c8
  have r9 := z.c9
  have r10 := z.c10
  have r11 := z.c11
  have r12 := z.c12
  have zf := z.f
  have FIN := HF.out.fin
  clear m x y z
  go_region
  go_wp2
  change bodyPost _ _ _ _ _ (setT (setM v4 (w.heap.size + 1 + 1) (.int .i64 size) (.slice a2 zs.length q2) (.int .i64 s4)) (w.heap.size + 1 + 1 + 1) T4 (.slice ao n cap)).drew
  generalize setT (setM v4 (w.heap.size + 1 + 1) (.int .i64 size) (.slice a2 zs.length q2) (.int .i64 s4)) (w.heap.size + 1 + 1 + 1) T4 (.slice ao n cap) = wf at *
  obtain ⟨fm, fx, o', l', b'⟩ := FIN
  have gm : Boxed wf.drew (w.heap.size + 1 + 1) (.int .i64 size) (.slice a2 zs.length q2) (.int .i64 s4) := fm
  have gx := fx.drew
  refine bodyPost_ret (v := .tuple #[.agg #[.int .i64 size, (.slice a2 zs.length q2), .int .i64 s4], thV T4 (.slice ao n cap)]) (by simp [results, Try.results47, go_sem, thV, gm.c0, gm.c1, gm.c2, gx.c0, gx.c1, gx.c2, gx.c3, gx.c4, gx.c5, gx.c6, gx.c7, gx.c8, gx.c9, gx.c10, gx.c11, gx.c12]) rfl ?_
  refine ⟨_, HEQ.out, ?_⟩
  rw [HZQ.out]
  exact ⟨own_at o' (fun _ _ _ => rfl), l', b'.drew⟩

set_option maxRecDepth 100000 in
set_option maxHeartbeats 16000000 in
theorem seek41z (h : w.ownsRow B 2 1 u zs.length (zs.map (Value.int .i64))) (hB : B ≤ w.heap.size) (hl : zs.length ≤ 1000) (ao : Option Addr) (n cap : Nat) (ag : Int) (hp : t.pc = 41) (hz : ld zs (ad t.pv 3) = 0) (k0 : 0 ≤ st) (k1 : st < 1000000) :
    Calls Try.prog 47 #[.agg #[.int .i64 size, u, .int .i64 st], .int .i64 ag, thV t (.slice ao n cap)] w (RQ w B u size (.slice ao n cap) (swt ag t zs) st) := by
  obtain ⟨au, cu, rfl⟩ := ownShape h
  rw [show thV t (.slice ao n cap) = .agg #[.int .i64 t.ti, .int .i64 t.pc, .int .i64 t.rc, .int .i64 t.sq, .int .i64 t.wo, .int .i64 t.lk, .int .i64 t.cu, .int .i64 t.pv, .int .i64 t.nt, .int .i64 t.mx, .int .i64 t.ps, .int .i64 t.rn, .slice ao n cap] from rfl]
  have HL := Lib.hid hl
  have HBB := Lib.hid hB
  have HSW := Lib.hid (show swt ag t zs = ⟨{ t with lk := ld zs (ad t.pv 3), pc := 48 }, zs, cn zs (ad t.pv 3)⟩ by rw [swt41 ag t zs hp]; rw [if_pos hz]; rw [hz])
  have C0 := fun (W : World) (h : W.ownsRow B 2 1 (.slice au zs.length cu) zs.length (zs.map (Value.int .i64))) (hb : B ≤ W.heap.size) => refLd (size := size) (st := st) h hb hl ao n cap (t := t) (ad t.pv 3) k0 k1
  obtain ⟨L, hLL⟩ : ∃ L, ld zs (ad t.pv 3) = L := ⟨_, rfl⟩
  rw [hLL] at HSW C0 hz
  subst hz
  have HC0 := Lib.hid C0
  have HPC := Lib.hid hp
  clear C0 hLL hp
  obtain ⟨W, hW⟩ : ∃ W, (((w.alloc (.cells #[.int .i64 size, .slice au zs.length cu, .int .i64 st] 39)).alloc (.cells #[.int .i64 t.ti, .int .i64 t.pc, .int .i64 t.rc, .int .i64 t.sq, .int .i64 t.wo, .int .i64 t.lk, .int .i64 t.cu, .int .i64 t.pv, .int .i64 t.nt, .int .i64 t.mx, .int .i64 t.ps, .int .i64 t.rn, .slice ao n cap] 25)).alloc (.cells #[.int .i64 0, .slice none 0 0, .int .i64 0] 39)).alloc (.cells #[.int .i64 0, .int .i64 0, .int .i64 0, .int .i64 0, .int .i64 0, .int .i64 0, .int .i64 0, .int .i64 0, .int .i64 0, .int .i64 0, .int .i64 0, .int .i64 0, .slice none 0 0] 25) = W := ⟨_, rfl⟩
  have HP := Lib.hid (PB.new h t (.slice ao n cap) W hW)
  have HW := Lib.hid hW
  clear hW h hl hB
  go_enter Try.func47, Try.ntmps47
  go_upto_region 1 with (fail)
  rw [HW.out]
  clear HW
  have x1 := HP.out.x.c1
  rw [HPC.out] at x1
  go_upto_region 10 with (fail)
  clear x1
  have m0 := HP.out.m.c0
  have m1 := HP.out.m.c1
  have m2 := HP.out.m.c2
  have x := HP.out.x
  have c0 := x.c0
  have c1 := x.c1
  have c2 := x.c2
  have c3 := x.c3
  have c4 := x.c4
  have c5 := x.c5
  have c6 := x.c6
  have c7 := x.c7
  have c8 := x.c8
  have c9 := x.c9
  have c10 := x.c10
  have c11 := x.c11
  have c12 := x.c12
  have C := HC0.out _ HP.out.o (Nat.le_trans HBB.out HP.out.b.size)
  rw [show thV t (.slice ao n cap) = .agg #[.int .i64 t.ti, .int .i64 t.pc, .int .i64 t.rc, .int .i64 t.sq, .int .i64 t.wo, .int .i64 t.lk, .int .i64 t.cu, .int .i64 t.pv, .int .i64 t.nt, .int .i64 t.mx, .int .i64 t.ps, .int .i64 t.rn, .slice ao n cap] from rfl, show (ad t.pv 3) = wrap64 (t.pv + 3) from rfl] at C
  have HC := Lib.hid C
  clear x C HC0
  go_wp2_with fail
  with_reducible refine HC.out.mono ?_
  clear HC m0 m1 m2 c0 c1 c2 c3 c4 c5 c6 c7 c8 c9 c10 c11 c12
  rintro e w2 ⟨u', rfl, l2⟩
  dsimp only at l2
  obtain ⟨a2, q2, rfl⟩ := ownShape l2.1
  rw [show thV ({ t with lk := 0 } : Th) (.slice ao n cap) = .agg #[.int .i64 t.ti, .int .i64 t.pc, .int .i64 t.rc, .int .i64 t.sq, .int .i64 t.wo, .int .i64 0, .int .i64 t.cu, .int .i64 t.pv, .int .i64 t.nt, .int .i64 t.mx, .int .i64 t.ps, .int .i64 t.rn, .slice ao n cap] from rfl, show wrap64 (t.pv + 3) = (ad t.pv 3) from rfl]
  dsimp only
  go_upto_region 11 with (fail)
  generalize hW3 : (w2.alloc (.cells #[.int .i64 size, .slice a2 zs.length q2, .int .i64 (st + cn zs (ad t.pv 3))] 39)).alloc (.cells #[.int .i64 t.ti, .int .i64 t.pc, .int .i64 t.rc, .int .i64 t.sq, .int .i64 t.wo, .int .i64 0, .int .i64 t.cu, .int .i64 t.pv, .int .i64 t.nt, .int .i64 t.mx, .int .i64 t.ps, .int .i64 t.rn, .slice ao n cap] 25) = w3
  have HF := Lib.hid (HP.out.callT (T := { t with lk := 0 }) l2 hW3)
  have hNN : w.heap.size + 4 ≤ w2.heap.size := by have := l2.2.2.size; have := HP.out.s; omega
  clear hW3 l2 HP
  generalize w2.heap.size = NN at *
  have hn1 : ¬ NN + 1 = w.heap.size + 1 + 1 := by omega
  have hn2 : ¬ w.heap.size + 1 + 1 = NN + 1 := by omega
  have hn3 : ¬ NN + 1 = w.heap.size + 1 + 1 + 1 := by omega
  have hn4 : ¬ w.heap.size + 1 + 1 + 1 = NN + 1 := by omega
  have hn5 : ¬ NN = w.heap.size + 1 + 1 := by omega
  have hn6 : ¬ NN = w.heap.size + 1 + 1 + 1 := by omega
  clear hNN
  have yy := HF.out.x.c1
  have y5 := HF.out.x.c5
  have yf := HF.out.x.f
  go_upto_region 12 with (fail)
  have HF' := Lib.hid (HF.out.set (HF.out.x.s1 48))
  clear HF yy y5 yf
  generalize hV : w3.setCell ⟨NN + 1, 1, none⟩ (.int .i64 48) = v1
  rw [hV] at HF'
  have HF := HF'
  clear HF' hV
  have y5 := HF.out.x.c5
  have y10 := HF.out.x.c10
  go_upto_region 15 with (fail)
  clear y5 y10
  obtain ⟨T4, hT4⟩ : ∃ T4 : Th, ({ t with lk := 0, pc := 48 } : Th) = T4 := ⟨_, rfl⟩
  obtain ⟨s4, hs4⟩ : ∃ s4 : Int, st + cn zs (ad t.pv 3) = s4 := ⟨_, rfl⟩
  have HFF := HF.out
  rw [hT4] at HFF
  rw [hs4] at HFF ⊢
  have HEQ := Lib.hid (show Ending.returned (.tuple #[.agg #[.int .i64 size, (.slice a2 zs.length q2), .int .i64 s4], thV T4 (.slice ao n cap)]) = .returned (.tuple #[.agg #[.int .i64 size, (.slice a2 zs.length q2), .int .i64 (st + ((swt ag t zs)).c)], thV ((swt ag t zs)).t (.slice ao n cap)]) by rw [← hs4, ← hT4, HSW.out])
  replace HF := Lib.hid HFF
  have HZQ := Lib.hid (show (swt ag t zs).zs = zs by rw [HSW.out])
  clear hT4 hs4 HFF
  have m := HF.out.m
  have m0 := m.c0
  have m1 := m.c1
  have m2 := m.c2
  have x := HF.out.x
  have c0 := x.c0
  have c1 := x.c1
  have c2 := x.c2
  have c3 := x.c3
  have c4 := x.c4
  have c5 := x.c5
  have c6 := x.c6
  have c7 := x.c7
  have c8 := x.c8
  have c9 := x.c9
  have c10 := x.c10
  have c11 := x.c11
  have c12 := x.c12
  have y := HF.out.y
  have y0 := y.c0
  have y1 := y.c1
  have y2 := y.c2
  have yf := y.f
  have z := HF.out.z
  have r0 := z.c0
  have r1 := z.c1
  have r2 := z.c2
  have r3 := z.c3
  have r4 := z.c4
  have r5 := z.c5
  have r6 := z.c6
  have r7 := z.c7
  have r8 := z.c8
  have r9 := z.c9
  have r10 := z.c10
  have r11 := z.c11
  have r12 := z.c12
  have zf := z.f
  have FIN := HF.out.fin
  clear m x y z
  go_region
  go_wp2
  change bodyPost _ _ _ _ _ (setT (setM v1 (w.heap.size + 1 + 1) (.int .i64 size) (.slice a2 zs.length q2) (.int .i64 s4)) (w.heap.size + 1 + 1 + 1) T4 (.slice ao n cap)).drew
  generalize setT (setM v1 (w.heap.size + 1 + 1) (.int .i64 size) (.slice a2 zs.length q2) (.int .i64 s4)) (w.heap.size + 1 + 1 + 1) T4 (.slice ao n cap) = wf at *
  obtain ⟨fm, fx, o', l', b'⟩ := FIN
  have gm : Boxed wf.drew (w.heap.size + 1 + 1) (.int .i64 size) (.slice a2 zs.length q2) (.int .i64 s4) := fm
  have gx := fx.drew
  refine bodyPost_ret (v := .tuple #[.agg #[.int .i64 size, (.slice a2 zs.length q2), .int .i64 s4], thV T4 (.slice ao n cap)]) (by simp [results, Try.results47, go_sem, thV, gm.c0, gm.c1, gm.c2, gx.c0, gx.c1, gx.c2, gx.c3, gx.c4, gx.c5, gx.c6, gx.c7, gx.c8, gx.c9, gx.c10, gx.c11, gx.c12]) rfl ?_
  refine ⟨_, HEQ.out, ?_⟩
  rw [HZQ.out]
  exact ⟨own_at o' (fun _ _ _ => rfl), l', b'.drew⟩

set_option maxRecDepth 100000 in
set_option maxHeartbeats 16000000 in
theorem seek41n (h : w.ownsRow B 2 1 u zs.length (zs.map (Value.int .i64))) (hB : B ≤ w.heap.size) (hl : zs.length ≤ 1000) (ao : Option Addr) (n cap : Nat) (ag : Int) (hp : t.pc = 41) (hz : ld zs (ad t.pv 3) ≠ 0) (k0 : 0 ≤ st) (k1 : st < 1000000) :
    Calls Try.prog 47 #[.agg #[.int .i64 size, u, .int .i64 st], .int .i64 ag, thV t (.slice ao n cap)] w (RQ w B u size (.slice ao n cap) (swt ag t zs) st) := by
  obtain ⟨au, cu, rfl⟩ := ownShape h
  rw [show thV t (.slice ao n cap) = .agg #[.int .i64 t.ti, .int .i64 t.pc, .int .i64 t.rc, .int .i64 t.sq, .int .i64 t.wo, .int .i64 t.lk, .int .i64 t.cu, .int .i64 t.pv, .int .i64 t.nt, .int .i64 t.mx, .int .i64 t.ps, .int .i64 t.rn, .slice ao n cap] from rfl]
  have HL := Lib.hid hl
  have HBB := Lib.hid hB
  have HSW := Lib.hid (show swt ag t zs = ⟨{ t with lk := ld zs (ad t.pv 3), cu := ld zs (ad t.pv 3), pc := 42 }, zs, cn zs (ad t.pv 3)⟩ by rw [swt41 ag t zs hp]; rw [if_neg hz])
  have C0 := fun (W : World) (h : W.ownsRow B 2 1 (.slice au zs.length cu) zs.length (zs.map (Value.int .i64))) (hb : B ≤ W.heap.size) => refLd (size := size) (st := st) h hb hl ao n cap (t := t) (ad t.pv 3) k0 k1
  obtain ⟨L, hLL⟩ : ∃ L, ld zs (ad t.pv 3) = L := ⟨_, rfl⟩
  rw [hLL] at HSW C0 hz
  have HC0 := Lib.hid C0
  have HZ0 := Lib.hid hz
  have HPC := Lib.hid hp
  clear C0 hLL hp
  obtain ⟨W, hW⟩ : ∃ W, (((w.alloc (.cells #[.int .i64 size, .slice au zs.length cu, .int .i64 st] 39)).alloc (.cells #[.int .i64 t.ti, .int .i64 t.pc, .int .i64 t.rc, .int .i64 t.sq, .int .i64 t.wo, .int .i64 t.lk, .int .i64 t.cu, .int .i64 t.pv, .int .i64 t.nt, .int .i64 t.mx, .int .i64 t.ps, .int .i64 t.rn, .slice ao n cap] 25)).alloc (.cells #[.int .i64 0, .slice none 0 0, .int .i64 0] 39)).alloc (.cells #[.int .i64 0, .int .i64 0, .int .i64 0, .int .i64 0, .int .i64 0, .int .i64 0, .int .i64 0, .int .i64 0, .int .i64 0, .int .i64 0, .int .i64 0, .int .i64 0, .slice none 0 0] 25) = W := ⟨_, rfl⟩
  have HP := Lib.hid (PB.new h t (.slice ao n cap) W hW)
  have HW := Lib.hid hW
  clear hW h hl hB
  go_enter Try.func47, Try.ntmps47
  go_upto_region 1 with (fail)
  rw [HW.out]
  clear HW
  have x1 := HP.out.x.c1
  rw [HPC.out] at x1
  go_upto_region 10 with (fail)
  clear x1
  have m0 := HP.out.m.c0
  have m1 := HP.out.m.c1
  have m2 := HP.out.m.c2
  have x := HP.out.x
  have c0 := x.c0
  have c1 := x.c1
  have c2 := x.c2
  have c3 := x.c3
  have c4 := x.c4
  have c5 := x.c5
  have c6 := x.c6
  have c7 := x.c7
  have c8 := x.c8
  have c9 := x.c9
  have c10 := x.c10
  have c11 := x.c11
  have c12 := x.c12
  have C := HC0.out _ HP.out.o (Nat.le_trans HBB.out HP.out.b.size)
  rw [show thV t (.slice ao n cap) = .agg #[.int .i64 t.ti, .int .i64 t.pc, .int .i64 t.rc, .int .i64 t.sq, .int .i64 t.wo, .int .i64 t.lk, .int .i64 t.cu, .int .i64 t.pv, .int .i64 t.nt, .int .i64 t.mx, .int .i64 t.ps, .int .i64 t.rn, .slice ao n cap] from rfl, show (ad t.pv 3) = wrap64 (t.pv + 3) from rfl] at C
  have HC := Lib.hid C
  clear x C HC0
  go_wp2_with fail
  with_reducible refine HC.out.mono ?_
  clear HC m0 m1 m2 c0 c1 c2 c3 c4 c5 c6 c7 c8 c9 c10 c11 c12
  rintro e w2 ⟨u', rfl, l2⟩
  dsimp only at l2
  obtain ⟨a2, q2, rfl⟩ := ownShape l2.1
  rw [show thV ({ t with lk := L } : Th) (.slice ao n cap) = .agg #[.int .i64 t.ti, .int .i64 t.pc, .int .i64 t.rc, .int .i64 t.sq, .int .i64 t.wo, .int .i64 L, .int .i64 t.cu, .int .i64 t.pv, .int .i64 t.nt, .int .i64 t.mx, .int .i64 t.ps, .int .i64 t.rn, .slice ao n cap] from rfl, show wrap64 (t.pv + 3) = (ad t.pv 3) from rfl]
  dsimp only
  go_upto_region 11 with (fail)
  generalize hW3 : (w2.alloc (.cells #[.int .i64 size, .slice a2 zs.length q2, .int .i64 (st + cn zs (ad t.pv 3))] 39)).alloc (.cells #[.int .i64 t.ti, .int .i64 t.pc, .int .i64 t.rc, .int .i64 t.sq, .int .i64 t.wo, .int .i64 L, .int .i64 t.cu, .int .i64 t.pv, .int .i64 t.nt, .int .i64 t.mx, .int .i64 t.ps, .int .i64 t.rn, .slice ao n cap] 25) = w3
  have HF := Lib.hid (HP.out.callT (T := { t with lk := L }) l2 hW3)
  have hNN : w.heap.size + 4 ≤ w2.heap.size := by have := l2.2.2.size; have := HP.out.s; omega
  clear hW3 l2 HP
  generalize w2.heap.size = NN at *
  have hn1 : ¬ NN + 1 = w.heap.size + 1 + 1 := by omega
  have hn2 : ¬ w.heap.size + 1 + 1 = NN + 1 := by omega
  have hn3 : ¬ NN + 1 = w.heap.size + 1 + 1 + 1 := by omega
  have hn4 : ¬ w.heap.size + 1 + 1 + 1 = NN + 1 := by omega
  have hn5 : ¬ NN = w.heap.size + 1 + 1 := by omega
  have hn6 : ¬ NN = w.heap.size + 1 + 1 + 1 := by omega
  clear hNN
  have hz := HZ0.out
  have hzb := hz
  try have hz2 : (L == 0) = false := by simpa using hz
  try have hz3 : (L != 0) = true := by simpa using hz
  have yy := HF.out.x.c1
  have y5 := HF.out.x.c5
  have yf := HF.out.x.f
  go_upto_region 12 with (fail)
  have HF' := Lib.hid (HF.out.set (HF.out.x.s1 48))
  clear HF yy y5 yf
  generalize hV : w3.setCell ⟨NN + 1, 1, none⟩ (.int .i64 48) = v1
  rw [hV] at HF'
  have HF := HF'
  clear HF' hV
  have y5 := HF.out.x.c5
  have y10 := HF.out.x.c10
  go_upto_region 13 with (fail)
  clear y5 y10
  have yy := HF.out.x.c6
  have y5 := HF.out.x.c5
  have yf := HF.out.x.f
  go_upto_region 14 with (fail)
  have HF' := Lib.hid (HF.out.set (HF.out.x.s6 L))
  clear HF yy y5 yf
  generalize hV : v1.setCell ⟨NN + 1, 6, none⟩ (.int .i64 L) = v3
  rw [hV] at HF'
  have HF := HF'
  clear HF' hV
  have yy := HF.out.x.c1
  have y5 := HF.out.x.c5
  have yf := HF.out.x.f
  go_upto_region 15 with (fail)
  have HF' := Lib.hid (HF.out.set (HF.out.x.s1 42))
  clear HF yy y5 yf
  generalize hV : v3.setCell ⟨NN + 1, 1, none⟩ (.int .i64 42) = v4
  rw [hV] at HF'
  have HF := HF'
  clear HF' hV
  clear hz hzb
  try clear hz2 hz3
  obtain ⟨T4, hT4⟩ : ∃ T4 : Th, ({ t with lk := L, cu := L, pc := 42 } : Th) = T4 := ⟨_, rfl⟩
  obtain ⟨s4, hs4⟩ : ∃ s4 : Int, st + cn zs (ad t.pv 3) = s4 := ⟨_, rfl⟩
  have HFF := HF.out
  rw [hT4] at HFF
  rw [hs4] at HFF ⊢
  have HEQ := Lib.hid (show Ending.returned (.tuple #[.agg #[.int .i64 size, (.slice a2 zs.length q2), .int .i64 s4], thV T4 (.slice ao n cap)]) = .returned (.tuple #[.agg #[.int .i64 size, (.slice a2 zs.length q2), .int .i64 (st + ((swt ag t zs)).c)], thV ((swt ag t zs)).t (.slice ao n cap)]) by rw [← hs4, ← hT4, HSW.out])
  replace HF := Lib.hid HFF
  have HZQ := Lib.hid (show (swt ag t zs).zs = zs by rw [HSW.out])
  clear hT4 hs4 HFF
  have m := HF.out.m
  have m0 := m.c0
  have m1 := m.c1
  have m2 := m.c2
  have x := HF.out.x
  have c0 := x.c0
  have c1 := x.c1
  have c2 := x.c2
  have c3 := x.c3
  have c4 := x.c4
  have c5 := x.c5
  have c6 := x.c6
  have c7 := x.c7
  have c8 := x.c8
  have c9 := x.c9
  have c10 := x.c10
  have c11 := x.c11
  have c12 := x.c12
  have y := HF.out.y
  have y0 := y.c0
  have y1 := y.c1
  have y2 := y.c2
  have yf := y.f
  have z := HF.out.z
  have r0 := z.c0
  have r1 := z.c1
  have r2 := z.c2
  have r3 := z.c3
  have r4 := z.c4
  have r5 := z.c5
  have r6 := z.c6
  have r7 := z.c7
  have r8 := z.c8
  have r9 := z.c9
  have r10 := z.c10
  have r11 := z.c11
  have r12 := z.c12
  have zf := z.f
  have FIN := HF.out.fin
  clear m x y z
  go_region
  go_wp2
  change bodyPost _ _ _ _ _ (setT (setM v4 (w.heap.size + 1 + 1) (.int .i64 size) (.slice a2 zs.length q2) (.int .i64 s4)) (w.heap.size + 1 + 1 + 1) T4 (.slice ao n cap)).drew
  generalize setT (setM v4 (w.heap.size + 1 + 1) (.int .i64 size) (.slice a2 zs.length q2) (.int .i64 s4)) (w.heap.size + 1 + 1 + 1) T4 (.slice ao n cap) = wf at *
  obtain ⟨fm, fx, o', l', b'⟩ := FIN
  have gm : Boxed wf.drew (w.heap.size + 1 + 1) (.int .i64 size) (.slice a2 zs.length q2) (.int .i64 s4) := fm
  have gx := fx.drew
  refine bodyPost_ret (v := .tuple #[.agg #[.int .i64 size, (.slice a2 zs.length q2), .int .i64 s4], thV T4 (.slice ao n cap)]) (by simp [results, Try.results47, go_sem, thV, gm.c0, gm.c1, gm.c2, gx.c0, gx.c1, gx.c2, gx.c3, gx.c4, gx.c5, gx.c6, gx.c7, gx.c8, gx.c9, gx.c10, gx.c11, gx.c12]) rfl ?_
  refine ⟨_, HEQ.out, ?_⟩
  rw [HZQ.out]
  exact ⟨own_at o' (fun _ _ _ => rfl), l', b'.drew⟩

set_option maxRecDepth 100000 in
set_option maxHeartbeats 16000000 in
theorem seek42y (h : w.ownsRow B 2 1 u zs.length (zs.map (Value.int .i64))) (hB : B ≤ w.heap.size) (hl : zs.length ≤ 1000) (ao : Option Addr) (n cap : Nat) (ag : Int) (hp : t.pc = 42) (hz : ld zs (ad t.cu 1) = 1) (k0 : 0 ≤ st) (k1 : st < 1000000) :
    Calls Try.prog 47 #[.agg #[.int .i64 size, u, .int .i64 st], .int .i64 ag, thV t (.slice ao n cap)] w (RQ w B u size (.slice ao n cap) (swt ag t zs) st) := by
  obtain ⟨au, cu, rfl⟩ := ownShape h
  rw [show thV t (.slice ao n cap) = .agg #[.int .i64 t.ti, .int .i64 t.pc, .int .i64 t.rc, .int .i64 t.sq, .int .i64 t.wo, .int .i64 t.lk, .int .i64 t.cu, .int .i64 t.pv, .int .i64 t.nt, .int .i64 t.mx, .int .i64 t.ps, .int .i64 t.rn, .slice ao n cap] from rfl]
  have HL := Lib.hid hl
  have HBB := Lib.hid hB
  have HSW := Lib.hid (show swt ag t zs = ⟨{ t with lk := ld zs (ad t.cu 1), pc := 43 }, zs, cn zs (ad t.cu 1)⟩ by rw [swt42 ag t zs hp]; rw [hz]; rfl)
  have C0 := fun (W : World) (h : W.ownsRow B 2 1 (.slice au zs.length cu) zs.length (zs.map (Value.int .i64))) (hb : B ≤ W.heap.size) => refLd (size := size) (st := st) h hb hl ao n cap (t := t) (ad t.cu 1) k0 k1
  obtain ⟨L, hLL⟩ : ∃ L, ld zs (ad t.cu 1) = L := ⟨_, rfl⟩
  rw [hLL] at HSW C0 hz
  subst hz
  have HC0 := Lib.hid C0
  have HPC := Lib.hid hp
  clear C0 hLL hp
  obtain ⟨W, hW⟩ : ∃ W, (((w.alloc (.cells #[.int .i64 size, .slice au zs.length cu, .int .i64 st] 39)).alloc (.cells #[.int .i64 t.ti, .int .i64 t.pc, .int .i64 t.rc, .int .i64 t.sq, .int .i64 t.wo, .int .i64 t.lk, .int .i64 t.cu, .int .i64 t.pv, .int .i64 t.nt, .int .i64 t.mx, .int .i64 t.ps, .int .i64 t.rn, .slice ao n cap] 25)).alloc (.cells #[.int .i64 0, .slice none 0 0, .int .i64 0] 39)).alloc (.cells #[.int .i64 0, .int .i64 0, .int .i64 0, .int .i64 0, .int .i64 0, .int .i64 0, .int .i64 0, .int .i64 0, .int .i64 0, .int .i64 0, .int .i64 0, .int .i64 0, .slice none 0 0] 25) = W := ⟨_, rfl⟩
  have HP := Lib.hid (PB.new h t (.slice ao n cap) W hW)
  have HW := Lib.hid hW
  clear hW h hl hB
  go_enter Try.func47, Try.ntmps47
  go_upto_region 1 with (fail)
  rw [HW.out]
  clear HW
  have x1 := HP.out.x.c1
  rw [HPC.out] at x1
  go_upto_region 17 with (fail)
  clear x1
  have m0 := HP.out.m.c0
  have m1 := HP.out.m.c1
  have m2 := HP.out.m.c2
  have x := HP.out.x
  have c0 := x.c0
  have c1 := x.c1
  have c2 := x.c2
  have c3 := x.c3
  have c4 := x.c4
  have c5 := x.c5
  have c6 := x.c6
  have c7 := x.c7
  have c8 := x.c8
  have c9 := x.c9
  have c10 := x.c10
  have c11 := x.c11
  have c12 := x.c12
  have C := HC0.out _ HP.out.o (Nat.le_trans HBB.out HP.out.b.size)
  rw [show thV t (.slice ao n cap) = .agg #[.int .i64 t.ti, .int .i64 t.pc, .int .i64 t.rc, .int .i64 t.sq, .int .i64 t.wo, .int .i64 t.lk, .int .i64 t.cu, .int .i64 t.pv, .int .i64 t.nt, .int .i64 t.mx, .int .i64 t.ps, .int .i64 t.rn, .slice ao n cap] from rfl, show (ad t.cu 1) = wrap64 (t.cu + 1) from rfl] at C
  have HC := Lib.hid C
  clear x C HC0
  go_wp2_with fail
  with_reducible refine HC.out.mono ?_
  clear HC m0 m1 m2 c0 c1 c2 c3 c4 c5 c6 c7 c8 c9 c10 c11 c12
  rintro e w2 ⟨u', rfl, l2⟩
  dsimp only at l2
  obtain ⟨a2, q2, rfl⟩ := ownShape l2.1
  rw [show thV ({ t with lk := 1 } : Th) (.slice ao n cap) = .agg #[.int .i64 t.ti, .int .i64 t.pc, .int .i64 t.rc, .int .i64 t.sq, .int .i64 t.wo, .int .i64 1, .int .i64 t.cu, .int .i64 t.pv, .int .i64 t.nt, .int .i64 t.mx, .int .i64 t.ps, .int .i64 t.rn, .slice ao n cap] from rfl, show wrap64 (t.cu + 1) = (ad t.cu 1) from rfl]
  dsimp only
  go_upto_region 18 with (fail)
  generalize hW3 : (w2.alloc (.cells #[.int .i64 size, .slice a2 zs.length q2, .int .i64 (st + cn zs (ad t.cu 1))] 39)).alloc (.cells #[.int .i64 t.ti, .int .i64 t.pc, .int .i64 t.rc, .int .i64 t.sq, .int .i64 t.wo, .int .i64 1, .int .i64 t.cu, .int .i64 t.pv, .int .i64 t.nt, .int .i64 t.mx, .int .i64 t.ps, .int .i64 t.rn, .slice ao n cap] 25) = w3
  have HF := Lib.hid (HP.out.callT (T := { t with lk := 1 }) l2 hW3)
  have hNN : w.heap.size + 4 ≤ w2.heap.size := by have := l2.2.2.size; have := HP.out.s; omega
  clear hW3 l2 HP
  generalize w2.heap.size = NN at *
  have hn1 : ¬ NN + 1 = w.heap.size + 1 + 1 := by omega
  have hn2 : ¬ w.heap.size + 1 + 1 = NN + 1 := by omega
  have hn3 : ¬ NN + 1 = w.heap.size + 1 + 1 + 1 := by omega
  have hn4 : ¬ w.heap.size + 1 + 1 + 1 = NN + 1 := by omega
  have hn5 : ¬ NN = w.heap.size + 1 + 1 := by omega
  have hn6 : ¬ NN = w.heap.size + 1 + 1 + 1 := by omega
  clear hNN
  have y5 := HF.out.x.c5
  have y10 := HF.out.x.c10
  go_upto_region 20 with (fail)
  clear y5 y10
  have yy := HF.out.x.c1
  have y5 := HF.out.x.c5
  have yf := HF.out.x.f
  go_upto_region 21 with (fail)
  have HF' := Lib.hid (HF.out.set (HF.out.x.s1 43))
  clear HF yy y5 yf
  generalize hV : w3.setCell ⟨NN + 1, 1, none⟩ (.int .i64 43) = v2
  rw [hV] at HF'
  have HF := HF'
  clear HF' hV
  obtain ⟨T4, hT4⟩ : ∃ T4 : Th, ({ t with lk := 1, pc := 43 } : Th) = T4 := ⟨_, rfl⟩
  obtain ⟨s4, hs4⟩ : ∃ s4 : Int, st + cn zs (ad t.cu 1) = s4 := ⟨_, rfl⟩
  have HFF := HF.out
  rw [hT4] at HFF
  rw [hs4] at HFF ⊢
  have HEQ := Lib.hid (show Ending.returned (.tuple #[.agg #[.int .i64 size, (.slice a2 zs.length q2), .int .i64 s4], thV T4 (.slice ao n cap)]) = .returned (.tuple #[.agg #[.int .i64 size, (.slice a2 zs.length q2), .int .i64 (st + ((swt ag t zs)).c)], thV ((swt ag t zs)).t (.slice ao n cap)]) by rw [← hs4, ← hT4, HSW.out])
  replace HF := Lib.hid HFF
  have HZQ := Lib.hid (show (swt ag t zs).zs = zs by rw [HSW.out])
  clear hT4 hs4 HFF
  have m := HF.out.m
  have m0 := m.c0
  have m1 := m.c1
  have m2 := m.c2
  have x := HF.out.x
  have c0 := x.c0
  have c1 := x.c1
  have c2 := x.c2
  have c3 := x.c3
  have c4 := x.c4
  have c5 := x.c5
  have c6 := x.c6
  have c7 := x.c7
  have c8 := x.c8
  have c9 := x.c9
  have c10 := x.c10
  have c11 := x.c11
  have c12 := x.c12
  have y := HF.out.y
  have y0 := y.c0
  have y1 := y.c1
  have y2 := y.c2
  have yf := y.f
  have z := HF.out.z
  have r0 := z.c0
  have r1 := z.c1
  have r2 := z.c2
  have r3 := z.c3
  have r4 := z.c4
  have r5 := z.c5
  have r6 := z.c6
  have r7 := z.c7
  have r8 := z.c8
  have r9 := z.c9
  have r10 := z.c10
  have r11 := z.c11
  have r12 := z.c12
  have zf := z.f
  have FIN := HF.out.fin
  clear m x y z
  go_region
  go_wp2
  change bodyPost _ _ _ _ _ (setT (setM v2 (w.heap.size + 1 + 1) (.int .i64 size) (.slice a2 zs.length q2) (.int .i64 s4)) (w.heap.size + 1 + 1 + 1) T4 (.slice ao n cap)).drew
  generalize setT (setM v2 (w.heap.size + 1 + 1) (.int .i64 size) (.slice a2 zs.length q2) (.int .i64 s4)) (w.heap.size + 1 + 1 + 1) T4 (.slice ao n cap) = wf at *
  obtain ⟨fm, fx, o', l', b'⟩ := FIN
  have gm : Boxed wf.drew (w.heap.size + 1 + 1) (.int .i64 size) (.slice a2 zs.length q2) (.int .i64 s4) := fm
  have gx := fx.drew
  refine bodyPost_ret (v := .tuple #[.agg #[.int .i64 size, (.slice a2 zs.length q2), .int .i64 s4], thV T4 (.slice ao n cap)]) (by simp [results, Try.results47, go_sem, thV, gm.c0, gm.c1, gm.c2, gx.c0, gx.c1, gx.c2, gx.c3, gx.c4, gx.c5, gx.c6, gx.c7, gx.c8, gx.c9, gx.c10, gx.c11, gx.c12]) rfl ?_
  refine ⟨_, HEQ.out, ?_⟩
  rw [HZQ.out]
  exact ⟨own_at o' (fun _ _ _ => rfl), l', b'.drew⟩

set_option maxRecDepth 100000 in
set_option maxHeartbeats 16000000 in
theorem seek42n (h : w.ownsRow B 2 1 u zs.length (zs.map (Value.int .i64))) (hB : B ≤ w.heap.size) (hl : zs.length ≤ 1000) (ao : Option Addr) (n cap : Nat) (ag : Int) (hp : t.pc = 42) (hz : ld zs (ad t.cu 1) ≠ 1) (k0 : 0 ≤ st) (k1 : st < 1000000) :
    Calls Try.prog 47 #[.agg #[.int .i64 size, u, .int .i64 st], .int .i64 ag, thV t (.slice ao n cap)] w (RQ w B u size (.slice ao n cap) (swt ag t zs) st) := by
  obtain ⟨au, cu, rfl⟩ := ownShape h
  rw [show thV t (.slice ao n cap) = .agg #[.int .i64 t.ti, .int .i64 t.pc, .int .i64 t.rc, .int .i64 t.sq, .int .i64 t.wo, .int .i64 t.lk, .int .i64 t.cu, .int .i64 t.pv, .int .i64 t.nt, .int .i64 t.mx, .int .i64 t.ps, .int .i64 t.rn, .slice ao n cap] from rfl]
  have HL := Lib.hid hl
  have HBB := Lib.hid hB
  have HSW := Lib.hid (show swt ag t zs = ⟨byT { t with lk := ld zs (ad t.cu 1) }, zs, cn zs (ad t.cu 1)⟩ by rw [swt42 ag t zs hp]; rw [show (ld zs (ad t.cu 1) == 1) = false by simpa using hz]; rfl)
  have C0 := fun (W : World) (h : W.ownsRow B 2 1 (.slice au zs.length cu) zs.length (zs.map (Value.int .i64))) (hb : B ≤ W.heap.size) => refLd (size := size) (st := st) h hb hl ao n cap (t := t) (ad t.cu 1) k0 k1
  obtain ⟨L, hLL⟩ : ∃ L, ld zs (ad t.cu 1) = L := ⟨_, rfl⟩
  rw [hLL] at HSW C0 hz
  have HC0 := Lib.hid C0
  have HZ0 := Lib.hid hz
  have HPC := Lib.hid hp
  clear C0 hLL hp
  obtain ⟨W, hW⟩ : ∃ W, (((w.alloc (.cells #[.int .i64 size, .slice au zs.length cu, .int .i64 st] 39)).alloc (.cells #[.int .i64 t.ti, .int .i64 t.pc, .int .i64 t.rc, .int .i64 t.sq, .int .i64 t.wo, .int .i64 t.lk, .int .i64 t.cu, .int .i64 t.pv, .int .i64 t.nt, .int .i64 t.mx, .int .i64 t.ps, .int .i64 t.rn, .slice ao n cap] 25)).alloc (.cells #[.int .i64 0, .slice none 0 0, .int .i64 0] 39)).alloc (.cells #[.int .i64 0, .int .i64 0, .int .i64 0, .int .i64 0, .int .i64 0, .int .i64 0, .int .i64 0, .int .i64 0, .int .i64 0, .int .i64 0, .int .i64 0, .int .i64 0, .slice none 0 0] 25) = W := ⟨_, rfl⟩
  have HP := Lib.hid (PB.new h t (.slice ao n cap) W hW)
  have HW := Lib.hid hW
  clear hW h hl hB
  go_enter Try.func47, Try.ntmps47
  go_upto_region 1 with (fail)
  rw [HW.out]
  clear HW
  have x1 := HP.out.x.c1
  rw [HPC.out] at x1
  go_upto_region 17 with (fail)
  clear x1
  have m0 := HP.out.m.c0
  have m1 := HP.out.m.c1
  have m2 := HP.out.m.c2
  have x := HP.out.x
  have c0 := x.c0
  have c1 := x.c1
  have c2 := x.c2
  have c3 := x.c3
  have c4 := x.c4
  have c5 := x.c5
  have c6 := x.c6
  have c7 := x.c7
  have c8 := x.c8
  have c9 := x.c9
  have c10 := x.c10
  have c11 := x.c11
  have c12 := x.c12
  have C := HC0.out _ HP.out.o (Nat.le_trans HBB.out HP.out.b.size)
  rw [show thV t (.slice ao n cap) = .agg #[.int .i64 t.ti, .int .i64 t.pc, .int .i64 t.rc, .int .i64 t.sq, .int .i64 t.wo, .int .i64 t.lk, .int .i64 t.cu, .int .i64 t.pv, .int .i64 t.nt, .int .i64 t.mx, .int .i64 t.ps, .int .i64 t.rn, .slice ao n cap] from rfl, show (ad t.cu 1) = wrap64 (t.cu + 1) from rfl] at C
  have HC := Lib.hid C
  clear x C HC0
  go_wp2_with fail
  with_reducible refine HC.out.mono ?_
  clear HC m0 m1 m2 c0 c1 c2 c3 c4 c5 c6 c7 c8 c9 c10 c11 c12
  rintro e w2 ⟨u', rfl, l2⟩
  dsimp only at l2
  obtain ⟨a2, q2, rfl⟩ := ownShape l2.1
  rw [show thV ({ t with lk := L } : Th) (.slice ao n cap) = .agg #[.int .i64 t.ti, .int .i64 t.pc, .int .i64 t.rc, .int .i64 t.sq, .int .i64 t.wo, .int .i64 L, .int .i64 t.cu, .int .i64 t.pv, .int .i64 t.nt, .int .i64 t.mx, .int .i64 t.ps, .int .i64 t.rn, .slice ao n cap] from rfl, show wrap64 (t.cu + 1) = (ad t.cu 1) from rfl]
  dsimp only
  go_upto_region 18 with (fail)
  generalize hW3 : (w2.alloc (.cells #[.int .i64 size, .slice a2 zs.length q2, .int .i64 (st + cn zs (ad t.cu 1))] 39)).alloc (.cells #[.int .i64 t.ti, .int .i64 t.pc, .int .i64 t.rc, .int .i64 t.sq, .int .i64 t.wo, .int .i64 L, .int .i64 t.cu, .int .i64 t.pv, .int .i64 t.nt, .int .i64 t.mx, .int .i64 t.ps, .int .i64 t.rn, .slice ao n cap] 25) = w3
  have HF := Lib.hid (HP.out.callT (T := { t with lk := L }) l2 hW3)
  have hNN : w.heap.size + 4 ≤ w2.heap.size := by have := l2.2.2.size; have := HP.out.s; omega
  clear hW3 l2 HP
  generalize w2.heap.size = NN at *
  have hn1 : ¬ NN + 1 = w.heap.size + 1 + 1 := by omega
  have hn2 : ¬ w.heap.size + 1 + 1 = NN + 1 := by omega
  have hn3 : ¬ NN + 1 = w.heap.size + 1 + 1 + 1 := by omega
  have hn4 : ¬ w.heap.size + 1 + 1 + 1 = NN + 1 := by omega
  have hn5 : ¬ NN = w.heap.size + 1 + 1 := by omega
  have hn6 : ¬ NN = w.heap.size + 1 + 1 + 1 := by omega
  clear hNN
  have hz := HZ0.out
  have hzb := hz
  try have hz2 : (L == 0) = false := by simpa using hz
  try have hz3 : (L != 0) = true := by simpa using hz
  have y5 := HF.out.x.c5
  have y10 := HF.out.x.c10
  go_upto_region 19 with (fail)
  clear y5 y10
  clear hz hzb
  try clear hz2 hz3
  obtain ⟨T0, hT0⟩ : ∃ T0 : Th, ({ t with lk := L } : Th) = T0 := ⟨_, rfl⟩
  obtain ⟨s4, hs4⟩ : ∃ s4 : Int, st + cn zs (ad t.cu 1) = s4 := ⟨_, rfl⟩
  have HFF := HF.out
  rw [hT0, hs4] at HFF
  rw [hs4]
  have HEQ := Lib.hid (show Ending.returned (.tuple #[.agg #[.int .i64 size, (.slice a2 zs.length q2), .int .i64 s4], thV (byT T0) (.slice ao n cap)]) = .returned (.tuple #[.agg #[.int .i64 size, (.slice a2 zs.length q2), .int .i64 (st + (swt ag t zs).c)], thV (swt ag t zs).t (.slice ao n cap)]) by rw [← hs4, ← hT0, HSW.out])
  replace HF := Lib.hid HFF
  have HZQ := Lib.hid (show (swt ag t zs).zs = zs by rw [HSW.out])
  clear hT0 hs4 HFF
  have HFd := Lib.hid (HF.out.fresh (Below.refl w3.heap.size w3).drew)
  have CB := refBy w3.drew T0 ao n cap
  rw [show thV T0 (.slice ao n cap) = .agg #[.int .i64 T0.ti, .int .i64 T0.pc, .int .i64 T0.rc, .int .i64 T0.sq, .int .i64 T0.wo, .int .i64 T0.lk, .int .i64 T0.cu, .int .i64 T0.pv, .int .i64 T0.nt, .int .i64 T0.mx, .int .i64 T0.ps, .int .i64 T0.rn, .slice ao n cap] from rfl] at CB
  obtain ⟨T4, hT4⟩ : ∃ T4 : Th, byT T0 = T4 := ⟨_, rfl⟩
  rw [hT4] at CB HEQ
  rw [show thV T4 (.slice ao n cap) = .agg #[.int .i64 T4.ti, .int .i64 T4.pc, .int .i64 T4.rc, .int .i64 T4.sq, .int .i64 T4.wo, .int .i64 T4.lk, .int .i64 T4.cu, .int .i64 T4.pv, .int .i64 T4.nt, .int .i64 T4.mx, .int .i64 T4.ps, .int .i64 T4.rn, .slice ao n cap] from rfl] at CB
  have HCB := Lib.hid CB
  clear CB hT4
  have m := HF.out.m
  have m0 := m.c0
  have m1 := m.c1
  have m2 := m.c2
  have x := HF.out.x
  have c0 := x.c0
  have c1 := x.c1
  have c2 := x.c2
  have c3 := x.c3
  have c4 := x.c4
  have c5 := x.c5
  have c6 := x.c6
  have c7 := x.c7
  have c8 := x.c8
  have c9 := x.c9
  have c10 := x.c10
  have c11 := x.c11
  have c12 := x.c12
  have y := HF.out.y
  have y0 := y.c0
  have y1 := y.c1
  have y2 := y.c2
  have yf := y.f
  have z := HF.out.z
  have r0 := z.c0
  have r1 := z.c1
  have r2 := z.c2
  have r3 := z.c3
  have r4 := z.c4
  have r5 := z.c5
  have r6 := z.c6
  have r7 := z.c7
  have r8 := z.c8
  have r9 := z.c9
  have r10 := z.c10
  have r11 := z.c11
  have r12 := z.c12
  have zf := z.f
  clear m x y z
  go_region_with ((with_reducible refine HCB.out.mono ?_); rintro e w5 ⟨rfl, hb⟩; have HG := Lib.hid (HFd.out.fresh hb); clear hb m0 m1 m2 c0 c1 c2 c3 c4 c5 c6 c7 c8 c9 c10 c11 c12 y0 y1 y2 yf r0 r1 r2 r3 r4 r5 r6 r7 r8 r9 r10 r11 r12 zf; have m := HG.out.m; have m0 := m.c0; have m1 := m.c1; have m2 := m.c2; have x := HG.out.x; have c0 := x.c0; have c1 := x.c1; have c2 := x.c2; have c3 := x.c3; have c4 := x.c4; have c5 := x.c5; have c6 := x.c6; have c7 := x.c7; have c8 := x.c8; have c9 := x.c9; have c10 := x.c10; have c11 := x.c11; have c12 := x.c12; have y := HG.out.y; have y0 := y.c0; have y1 := y.c1; have y2 := y.c2; have yf := y.f; have z := HG.out.z; have r0 := z.c0; have r1 := z.c1; have r2 := z.c2; have r3 := z.c3; have r4 := z.c4; have r5 := z.c5; have r6 := z.c6; have r7 := z.c7; have r8 := z.c8; have r9 := z.c9; have r10 := z.c10; have r11 := z.c11; have r12 := z.c12; have zf := z.f; clear m x y z)
  all_goals (
    go_wp2
    change bodyPost _ _ _ _ _ (setT (setM w5 (w.heap.size + 1 + 1) (.int .i64 size) (.slice a2 zs.length q2) (.int .i64 s4)) (w.heap.size + 1 + 1 + 1) T4 (.slice ao n cap))
    have FIN := HG.out.finY T4
    generalize setT (setM w5 (w.heap.size + 1 + 1) (.int .i64 size) (.slice a2 zs.length q2) (.int .i64 s4)) (w.heap.size + 1 + 1 + 1) T4 (.slice ao n cap) = wf at *
    obtain ⟨gm, gx, o', l', b'⟩ := FIN
    refine bodyPost_ret (v := .tuple #[.agg #[.int .i64 size, (.slice a2 zs.length q2), .int .i64 s4], thV T4 (.slice ao n cap)]) (by simp [results, Try.results47, go_sem, thV, gm.c0, gm.c1, gm.c2, gx.c0, gx.c1, gx.c2, gx.c3, gx.c4, gx.c5, gx.c6, gx.c7, gx.c8, gx.c9, gx.c10, gx.c11, gx.c12]) rfl ?_
    refine ⟨_, HEQ.out, ?_⟩
    rw [HZQ.out]
    exact ⟨o', l', b'⟩)

set_option maxRecDepth 100000 in
set_option maxHeartbeats 16000000 in
theorem seek43y (h : w.ownsRow B 2 1 u zs.length (zs.map (Value.int .i64))) (hB : B ≤ w.heap.size) (hl : zs.length ≤ 1000) (ao : Option Addr) (n cap : Nat) (ag : Int) (hp : t.pc = 43) (hz : ag < wrap64 (t.ps - ld zs (ad t.cu 2))) (k0 : 0 ≤ st) (k1 : st < 1000000) :
    Calls Try.prog 47 #[.agg #[.int .i64 size, u, .int .i64 st], .int .i64 ag, thV t (.slice ao n cap)] w (RQ w B u size (.slice ao n cap) (swt ag t zs) st) := by
  obtain ⟨au, cu, rfl⟩ := ownShape h
  rw [show thV t (.slice ao n cap) = .agg #[.int .i64 t.ti, .int .i64 t.pc, .int .i64 t.rc, .int .i64 t.sq, .int .i64 t.wo, .int .i64 t.lk, .int .i64 t.cu, .int .i64 t.pv, .int .i64 t.nt, .int .i64 t.mx, .int .i64 t.ps, .int .i64 t.rn, .slice ao n cap] from rfl]
  have HL := Lib.hid hl
  have HBB := Lib.hid hB
  have HSW := Lib.hid (show swt ag t zs = ⟨{ t with lk := ld zs (ad t.cu 2), pc := 44 }, zs, cn zs (ad t.cu 2)⟩ by rw [swt43 ag t zs hp]; rw [decide_eq_true hz]; rfl)
  have C0 := fun (W : World) (h : W.ownsRow B 2 1 (.slice au zs.length cu) zs.length (zs.map (Value.int .i64))) (hb : B ≤ W.heap.size) => refLd (size := size) (st := st) h hb hl ao n cap (t := t) (ad t.cu 2) k0 k1
  obtain ⟨L, hLL⟩ : ∃ L, ld zs (ad t.cu 2) = L := ⟨_, rfl⟩
  rw [hLL] at HSW C0 hz
  have HC0 := Lib.hid C0
  have HZ0 := Lib.hid hz
  have HPC := Lib.hid hp
  clear C0 hLL hp
  obtain ⟨W, hW⟩ : ∃ W, (((w.alloc (.cells #[.int .i64 size, .slice au zs.length cu, .int .i64 st] 39)).alloc (.cells #[.int .i64 t.ti, .int .i64 t.pc, .int .i64 t.rc, .int .i64 t.sq, .int .i64 t.wo, .int .i64 t.lk, .int .i64 t.cu, .int .i64 t.pv, .int .i64 t.nt, .int .i64 t.mx, .int .i64 t.ps, .int .i64 t.rn, .slice ao n cap] 25)).alloc (.cells #[.int .i64 0, .slice none 0 0, .int .i64 0] 39)).alloc (.cells #[.int .i64 0, .int .i64 0, .int .i64 0, .int .i64 0, .int .i64 0, .int .i64 0, .int .i64 0, .int .i64 0, .int .i64 0, .int .i64 0, .int .i64 0, .int .i64 0, .slice none 0 0] 25) = W := ⟨_, rfl⟩
  have HP := Lib.hid (PB.new h t (.slice ao n cap) W hW)
  have HW := Lib.hid hW
  clear hW h hl hB
  go_enter Try.func47, Try.ntmps47
  go_upto_region 1 with (fail)
  rw [HW.out]
  clear HW
  have x1 := HP.out.x.c1
  rw [HPC.out] at x1
  go_upto_region 22 with (fail)
  clear x1
  have m0 := HP.out.m.c0
  have m1 := HP.out.m.c1
  have m2 := HP.out.m.c2
  have x := HP.out.x
  have c0 := x.c0
  have c1 := x.c1
  have c2 := x.c2
  have c3 := x.c3
  have c4 := x.c4
  have c5 := x.c5
  have c6 := x.c6
  have c7 := x.c7
  have c8 := x.c8
  have c9 := x.c9
  have c10 := x.c10
  have c11 := x.c11
  have c12 := x.c12
  have C := HC0.out _ HP.out.o (Nat.le_trans HBB.out HP.out.b.size)
  rw [show thV t (.slice ao n cap) = .agg #[.int .i64 t.ti, .int .i64 t.pc, .int .i64 t.rc, .int .i64 t.sq, .int .i64 t.wo, .int .i64 t.lk, .int .i64 t.cu, .int .i64 t.pv, .int .i64 t.nt, .int .i64 t.mx, .int .i64 t.ps, .int .i64 t.rn, .slice ao n cap] from rfl, show (ad t.cu 2) = wrap64 (t.cu + 2) from rfl] at C
  have HC := Lib.hid C
  clear x C HC0
  go_wp2_with fail
  with_reducible refine HC.out.mono ?_
  clear HC m0 m1 m2 c0 c1 c2 c3 c4 c5 c6 c7 c8 c9 c10 c11 c12
  rintro e w2 ⟨u', rfl, l2⟩
  dsimp only at l2
  obtain ⟨a2, q2, rfl⟩ := ownShape l2.1
  rw [show thV ({ t with lk := L } : Th) (.slice ao n cap) = .agg #[.int .i64 t.ti, .int .i64 t.pc, .int .i64 t.rc, .int .i64 t.sq, .int .i64 t.wo, .int .i64 L, .int .i64 t.cu, .int .i64 t.pv, .int .i64 t.nt, .int .i64 t.mx, .int .i64 t.ps, .int .i64 t.rn, .slice ao n cap] from rfl, show wrap64 (t.cu + 2) = (ad t.cu 2) from rfl]
  dsimp only
  go_upto_region 23 with (fail)
  generalize hW3 : (w2.alloc (.cells #[.int .i64 size, .slice a2 zs.length q2, .int .i64 (st + cn zs (ad t.cu 2))] 39)).alloc (.cells #[.int .i64 t.ti, .int .i64 t.pc, .int .i64 t.rc, .int .i64 t.sq, .int .i64 t.wo, .int .i64 L, .int .i64 t.cu, .int .i64 t.pv, .int .i64 t.nt, .int .i64 t.mx, .int .i64 t.ps, .int .i64 t.rn, .slice ao n cap] 25) = w3
  have HF := Lib.hid (HP.out.callT (T := { t with lk := L }) l2 hW3)
  have hNN : w.heap.size + 4 ≤ w2.heap.size := by have := l2.2.2.size; have := HP.out.s; omega
  clear hW3 l2 HP
  generalize w2.heap.size = NN at *
  have hn1 : ¬ NN + 1 = w.heap.size + 1 + 1 := by omega
  have hn2 : ¬ w.heap.size + 1 + 1 = NN + 1 := by omega
  have hn3 : ¬ NN + 1 = w.heap.size + 1 + 1 + 1 := by omega
  have hn4 : ¬ w.heap.size + 1 + 1 + 1 = NN + 1 := by omega
  have hn5 : ¬ NN = w.heap.size + 1 + 1 := by omega
  have hn6 : ¬ NN = w.heap.size + 1 + 1 + 1 := by omega
  clear hNN
  have hz := HZ0.out
  have hzb := hz
  try have hz2 : (L == 0) = false := by simpa using hz
  try have hz3 : (L != 0) = true := by simpa using hz
  have y5 := HF.out.x.c5
  have y10 := HF.out.x.c10
  go_upto_region 25 with (fail)
  clear y5 y10
  have yy := HF.out.x.c1
  have y5 := HF.out.x.c5
  have yf := HF.out.x.f
  go_upto_region 26 with (fail)
  have HF' := Lib.hid (HF.out.set (HF.out.x.s1 44))
  clear HF yy y5 yf
  generalize hV : w3.setCell ⟨NN + 1, 1, none⟩ (.int .i64 44) = v2
  rw [hV] at HF'
  have HF := HF'
  clear HF' hV
  clear hz hzb
  try clear hz2 hz3
  obtain ⟨T4, hT4⟩ : ∃ T4 : Th, ({ t with lk := L, pc := 44 } : Th) = T4 := ⟨_, rfl⟩
  obtain ⟨s4, hs4⟩ : ∃ s4 : Int, st + cn zs (ad t.cu 2) = s4 := ⟨_, rfl⟩
  have HFF := HF.out
  rw [hT4] at HFF
  rw [hs4] at HFF ⊢
  have HEQ := Lib.hid (show Ending.returned (.tuple #[.agg #[.int .i64 size, (.slice a2 zs.length q2), .int .i64 s4], thV T4 (.slice ao n cap)]) = .returned (.tuple #[.agg #[.int .i64 size, (.slice a2 zs.length q2), .int .i64 (st + ((swt ag t zs)).c)], thV ((swt ag t zs)).t (.slice ao n cap)]) by rw [← hs4, ← hT4, HSW.out])
  replace HF := Lib.hid HFF
  have HZQ := Lib.hid (show (swt ag t zs).zs = zs by rw [HSW.out])
  clear hT4 hs4 HFF
  have m := HF.out.m
  have m0 := m.c0
  have m1 := m.c1
  have m2 := m.c2
  have x := HF.out.x
  have c0 := x.c0
  have c1 := x.c1
  have c2 := x.c2
  have c3 := x.c3
  have c4 := x.c4
  have c5 := x.c5
  have c6 := x.c6
  have c7 := x.c7
  have c8 := x.c8
  have c9 := x.c9
  have c10 := x.c10
  have c11 := x.c11
  have c12 := x.c12
  have y := HF.out.y
  have y0 := y.c0
  have y1 := y.c1
  have y2 := y.c2
  have yf := y.f
  have z := HF.out.z
  have r0 := z.c0
  have r1 := z.c1
  have r2 := z.c2
  have r3 := z.c3
  have r4 := z.c4
  have r5 := z.c5
  have r6 := z.c6
  have r7 := z.c7
  have r8 := z.c8
  have r9 := z.c9
  have r10 := z.c10
  have r11 := z.c11
  have r12 := z.c12
  have zf := z.f
  have FIN := HF.out.fin
  clear m x y z
  go_region
  go_wp2
  change bodyPost _ _ _ _ _ (setT (setM v2 (w.heap.size + 1 + 1) (.int .i64 size) (.slice a2 zs.length q2) (.int .i64 s4)) (w.heap.size + 1 + 1 + 1) T4 (.slice ao n cap)).drew
  generalize setT (setM v2 (w.heap.size + 1 + 1) (.int .i64 size) (.slice a2 zs.length q2) (.int .i64 s4)) (w.heap.size + 1 + 1 + 1) T4 (.slice ao n cap) = wf at *
  obtain ⟨fm, fx, o', l', b'⟩ := FIN
  have gm : Boxed wf.drew (w.heap.size + 1 + 1) (.int .i64 size) (.slice a2 zs.length q2) (.int .i64 s4) := fm
  have gx := fx.drew
  refine bodyPost_ret (v := .tuple #[.agg #[.int .i64 size, (.slice a2 zs.length q2), .int .i64 s4], thV T4 (.slice ao n cap)]) (by simp [results, Try.results47, go_sem, thV, gm.c0, gm.c1, gm.c2, gx.c0, gx.c1, gx.c2, gx.c3, gx.c4, gx.c5, gx.c6, gx.c7, gx.c8, gx.c9, gx.c10, gx.c11, gx.c12]) rfl ?_
  refine ⟨_, HEQ.out, ?_⟩
  rw [HZQ.out]
  exact ⟨own_at o' (fun _ _ _ => rfl), l', b'.drew⟩

set_option maxRecDepth 100000 in
set_option maxHeartbeats 16000000 in
theorem seek43n (h : w.ownsRow B 2 1 u zs.length (zs.map (Value.int .i64))) (hB : B ≤ w.heap.size) (hl : zs.length ≤ 1000) (ao : Option Addr) (n cap : Nat) (ag : Int) (hp : t.pc = 43) (hz : ¬ ag < wrap64 (t.ps - ld zs (ad t.cu 2))) (k0 : 0 ≤ st) (k1 : st < 1000000) :
    Calls Try.prog 47 #[.agg #[.int .i64 size, u, .int .i64 st], .int .i64 ag, thV t (.slice ao n cap)] w (RQ w B u size (.slice ao n cap) (swt ag t zs) st) := by
  obtain ⟨au, cu, rfl⟩ := ownShape h
  rw [show thV t (.slice ao n cap) = .agg #[.int .i64 t.ti, .int .i64 t.pc, .int .i64 t.rc, .int .i64 t.sq, .int .i64 t.wo, .int .i64 t.lk, .int .i64 t.cu, .int .i64 t.pv, .int .i64 t.nt, .int .i64 t.mx, .int .i64 t.ps, .int .i64 t.rn, .slice ao n cap] from rfl]
  have HL := Lib.hid hl
  have HBB := Lib.hid hB
  have HSW := Lib.hid (show swt ag t zs = ⟨byT { t with lk := ld zs (ad t.cu 2) }, zs, cn zs (ad t.cu 2)⟩ by rw [swt43 ag t zs hp]; rw [decide_eq_false hz]; rfl)
  have C0 := fun (W : World) (h : W.ownsRow B 2 1 (.slice au zs.length cu) zs.length (zs.map (Value.int .i64))) (hb : B ≤ W.heap.size) => refLd (size := size) (st := st) h hb hl ao n cap (t := t) (ad t.cu 2) k0 k1
  obtain ⟨L, hLL⟩ : ∃ L, ld zs (ad t.cu 2) = L := ⟨_, rfl⟩
  rw [hLL] at HSW C0 hz
  have HC0 := Lib.hid C0
  have HZ0 := Lib.hid hz
  have HPC := Lib.hid hp
  clear C0 hLL hp
  obtain ⟨W, hW⟩ : ∃ W, (((w.alloc (.cells #[.int .i64 size, .slice au zs.length cu, .int .i64 st] 39)).alloc (.cells #[.int .i64 t.ti, .int .i64 t.pc, .int .i64 t.rc, .int .i64 t.sq, .int .i64 t.wo, .int .i64 t.lk, .int .i64 t.cu, .int .i64 t.pv, .int .i64 t.nt, .int .i64 t.mx, .int .i64 t.ps, .int .i64 t.rn, .slice ao n cap] 25)).alloc (.cells #[.int .i64 0, .slice none 0 0, .int .i64 0] 39)).alloc (.cells #[.int .i64 0, .int .i64 0, .int .i64 0, .int .i64 0, .int .i64 0, .int .i64 0, .int .i64 0, .int .i64 0, .int .i64 0, .int .i64 0, .int .i64 0, .int .i64 0, .slice none 0 0] 25) = W := ⟨_, rfl⟩
  have HP := Lib.hid (PB.new h t (.slice ao n cap) W hW)
  have HW := Lib.hid hW
  clear hW h hl hB
  go_enter Try.func47, Try.ntmps47
  go_upto_region 1 with (fail)
  rw [HW.out]
  clear HW
  have x1 := HP.out.x.c1
  rw [HPC.out] at x1
  go_upto_region 22 with (fail)
  clear x1
  have m0 := HP.out.m.c0
  have m1 := HP.out.m.c1
  have m2 := HP.out.m.c2
  have x := HP.out.x
  have c0 := x.c0
  have c1 := x.c1
  have c2 := x.c2
  have c3 := x.c3
  have c4 := x.c4
  have c5 := x.c5
  have c6 := x.c6
  have c7 := x.c7
  have c8 := x.c8
  have c9 := x.c9
  have c10 := x.c10
  have c11 := x.c11
  have c12 := x.c12
  have C := HC0.out _ HP.out.o (Nat.le_trans HBB.out HP.out.b.size)
  rw [show thV t (.slice ao n cap) = .agg #[.int .i64 t.ti, .int .i64 t.pc, .int .i64 t.rc, .int .i64 t.sq, .int .i64 t.wo, .int .i64 t.lk, .int .i64 t.cu, .int .i64 t.pv, .int .i64 t.nt, .int .i64 t.mx, .int .i64 t.ps, .int .i64 t.rn, .slice ao n cap] from rfl, show (ad t.cu 2) = wrap64 (t.cu + 2) from rfl] at C
  have HC := Lib.hid C
  clear x C HC0
  go_wp2_with fail
  with_reducible refine HC.out.mono ?_
  clear HC m0 m1 m2 c0 c1 c2 c3 c4 c5 c6 c7 c8 c9 c10 c11 c12
  rintro e w2 ⟨u', rfl, l2⟩
  dsimp only at l2
  obtain ⟨a2, q2, rfl⟩ := ownShape l2.1
  rw [show thV ({ t with lk := L } : Th) (.slice ao n cap) = .agg #[.int .i64 t.ti, .int .i64 t.pc, .int .i64 t.rc, .int .i64 t.sq, .int .i64 t.wo, .int .i64 L, .int .i64 t.cu, .int .i64 t.pv, .int .i64 t.nt, .int .i64 t.mx, .int .i64 t.ps, .int .i64 t.rn, .slice ao n cap] from rfl, show wrap64 (t.cu + 2) = (ad t.cu 2) from rfl]
  dsimp only
  go_upto_region 23 with (fail)
  generalize hW3 : (w2.alloc (.cells #[.int .i64 size, .slice a2 zs.length q2, .int .i64 (st + cn zs (ad t.cu 2))] 39)).alloc (.cells #[.int .i64 t.ti, .int .i64 t.pc, .int .i64 t.rc, .int .i64 t.sq, .int .i64 t.wo, .int .i64 L, .int .i64 t.cu, .int .i64 t.pv, .int .i64 t.nt, .int .i64 t.mx, .int .i64 t.ps, .int .i64 t.rn, .slice ao n cap] 25) = w3
  have HF := Lib.hid (HP.out.callT (T := { t with lk := L }) l2 hW3)
  have hNN : w.heap.size + 4 ≤ w2.heap.size := by have := l2.2.2.size; have := HP.out.s; omega
  clear hW3 l2 HP
  generalize w2.heap.size = NN at *
  have hn1 : ¬ NN + 1 = w.heap.size + 1 + 1 := by omega
  have hn2 : ¬ w.heap.size + 1 + 1 = NN + 1 := by omega
  have hn3 : ¬ NN + 1 = w.heap.size + 1 + 1 + 1 := by omega
  have hn4 : ¬ w.heap.size + 1 + 1 + 1 = NN + 1 := by omega
  have hn5 : ¬ NN = w.heap.size + 1 + 1 := by omega
  have hn6 : ¬ NN = w.heap.size + 1 + 1 + 1 := by omega
  clear hNN
  have hz := HZ0.out
  have hzb := hz
  try have hz2 : (L == 0) = false := by simpa using hz
  try have hz3 : (L != 0) = true := by simpa using hz
  have y5 := HF.out.x.c5
  have y10 := HF.out.x.c10
  go_upto_region 24 with (fail)
  clear y5 y10
  clear hz hzb
  try clear hz2 hz3
  obtain ⟨T0, hT0⟩ : ∃ T0 : Th, ({ t with lk := L } : Th) = T0 := ⟨_, rfl⟩
  obtain ⟨s4, hs4⟩ : ∃ s4 : Int, st + cn zs (ad t.cu 2) = s4 := ⟨_, rfl⟩
  have HFF := HF.out
  rw [hT0, hs4] at HFF
  rw [hs4]
  have HEQ := Lib.hid (show Ending.returned (.tuple #[.agg #[.int .i64 size, (.slice a2 zs.length q2), .int .i64 s4], thV (byT T0) (.slice ao n cap)]) = .returned (.tuple #[.agg #[.int .i64 size, (.slice a2 zs.length q2), .int .i64 (st + (swt ag t zs).c)], thV (swt ag t zs).t (.slice ao n cap)]) by rw [← hs4, ← hT0, HSW.out])
  replace HF := Lib.hid HFF
  have HZQ := Lib.hid (show (swt ag t zs).zs = zs by rw [HSW.out])
  clear hT0 hs4 HFF
  have HFd := Lib.hid (HF.out.fresh (Below.refl w3.heap.size w3).drew)
  have CB := refBy w3.drew T0 ao n cap
  rw [show thV T0 (.slice ao n cap) = .agg #[.int .i64 T0.ti, .int .i64 T0.pc, .int .i64 T0.rc, .int .i64 T0.sq, .int .i64 T0.wo, .int .i64 T0.lk, .int .i64 T0.cu, .int .i64 T0.pv, .int .i64 T0.nt, .int .i64 T0.mx, .int .i64 T0.ps, .int .i64 T0.rn, .slice ao n cap] from rfl] at CB
  obtain ⟨T4, hT4⟩ : ∃ T4 : Th, byT T0 = T4 := ⟨_, rfl⟩
  rw [hT4] at CB HEQ
  rw [show thV T4 (.slice ao n cap) = .agg #[.int .i64 T4.ti, .int .i64 T4.pc, .int .i64 T4.rc, .int .i64 T4.sq, .int .i64 T4.wo, .int .i64 T4.lk, .int .i64 T4.cu, .int .i64 T4.pv, .int .i64 T4.nt, .int .i64 T4.mx, .int .i64 T4.ps, .int .i64 T4.rn, .slice ao n cap] from rfl] at CB
  have HCB := Lib.hid CB
  clear CB hT4
  have m := HF.out.m
  have m0 := m.c0
  have m1 := m.c1
  have m2 := m.c2
  have x := HF.out.x
  have c0 := x.c0
  have c1 := x.c1
  have c2 := x.c2
  have c3 := x.c3
  have c4 := x.c4
  have c5 := x.c5
  have c6 := x.c6
  have c7 := x.c7
  have c8 := x.c8
  have c9 := x.c9
  have c10 := x.c10
  have c11 := x.c11
  have c12 := x.c12
  have y := HF.out.y
  have y0 := y.c0
  have y1 := y.c1
  have y2 := y.c2
  have yf := y.f
  have z := HF.out.z
  have r0 := z.c0
  have r1 := z.c1
  have r2 := z.c2
  have r3 := z.c3
  have r4 := z.c4
  have r5 := z.c5
  have r6 := z.c6
  have r7 := z.c7
  have r8 := z.c8
  have r9 := z.c9
  have r10 := z.c10
  have r11 := z.c11
  have r12 := z.c12
  have zf := z.f
  clear m x y z
  go_region_with ((with_reducible refine HCB.out.mono ?_); rintro e w5 ⟨rfl, hb⟩; have HG := Lib.hid (HFd.out.fresh hb); clear hb m0 m1 m2 c0 c1 c2 c3 c4 c5 c6 c7 c8 c9 c10 c11 c12 y0 y1 y2 yf r0 r1 r2 r3 r4 r5 r6 r7 r8 r9 r10 r11 r12 zf; have m := HG.out.m; have m0 := m.c0; have m1 := m.c1; have m2 := m.c2; have x := HG.out.x; have c0 := x.c0; have c1 := x.c1; have c2 := x.c2; have c3 := x.c3; have c4 := x.c4; have c5 := x.c5; have c6 := x.c6; have c7 := x.c7; have c8 := x.c8; have c9 := x.c9; have c10 := x.c10; have c11 := x.c11; have c12 := x.c12; have y := HG.out.y; have y0 := y.c0; have y1 := y.c1; have y2 := y.c2; have yf := y.f; have z := HG.out.z; have r0 := z.c0; have r1 := z.c1; have r2 := z.c2; have r3 := z.c3; have r4 := z.c4; have r5 := z.c5; have r6 := z.c6; have r7 := z.c7; have r8 := z.c8; have r9 := z.c9; have r10 := z.c10; have r11 := z.c11; have r12 := z.c12; have zf := z.f; clear m x y z)
  all_goals (
    go_wp2
    change bodyPost _ _ _ _ _ (setT (setM w5 (w.heap.size + 1 + 1) (.int .i64 size) (.slice a2 zs.length q2) (.int .i64 s4)) (w.heap.size + 1 + 1 + 1) T4 (.slice ao n cap))
    have FIN := HG.out.finY T4
    generalize setT (setM w5 (w.heap.size + 1 + 1) (.int .i64 size) (.slice a2 zs.length q2) (.int .i64 s4)) (w.heap.size + 1 + 1 + 1) T4 (.slice ao n cap) = wf at *
    obtain ⟨gm, gx, o', l', b'⟩ := FIN
    refine bodyPost_ret (v := .tuple #[.agg #[.int .i64 size, (.slice a2 zs.length q2), .int .i64 s4], thV T4 (.slice ao n cap)]) (by simp [results, Try.results47, go_sem, thV, gm.c0, gm.c1, gm.c2, gx.c0, gx.c1, gx.c2, gx.c3, gx.c4, gx.c5, gx.c6, gx.c7, gx.c8, gx.c9, gx.c10, gx.c11, gx.c12]) rfl ?_
    refine ⟨_, HEQ.out, ?_⟩
    rw [HZQ.out]
    exact ⟨o', l', b'⟩)

theorem refSeek (h : w.ownsRow B 2 1 u zs.length (zs.map (Value.int .i64))) (hB : B ≤ w.heap.size) (hl : zs.length ≤ 1000) (ao : Option Addr) (n cap : Nat) (ag : Int) (hp : 40 ≤ t.pc ∧ t.pc ≤ 43) (k0 : 0 ≤ st) (k1 : st < 1000000) :
    Calls Try.prog 47 #[.agg #[.int .i64 size, u, .int .i64 st], .int .i64 ag, thV t (.slice ao n cap)] w (RQ w B u size (.slice ao n cap) (swt ag t zs) st) := by
  rcases (show t.pc = 40 ∨ t.pc = 41 ∨ t.pc = 42 ∨ t.pc = 43 by omega) with e | e | e | e
  · by_cases hz : ld zs 1 = 0
    · exact seek40z h hB hl ao n cap ag e hz k0 k1
    · exact seek40n h hB hl ao n cap ag e hz k0 k1
  · by_cases hz : ld zs (ad t.pv 3) = 0
    · exact seek41z h hB hl ao n cap ag e hz k0 k1
    · exact seek41n h hB hl ao n cap ag e hz k0 k1
  · by_cases hz : ld zs (ad t.cu 1) = 1
    · exact seek42y h hB hl ao n cap ag e hz k0 k1
    · exact seek42n h hB hl ao n cap ag e hz k0 k1
  · by_cases hz : ag < wrap64 (t.ps - ld zs (ad t.cu 2))
    · exact seek43y h hB hl ao n cap ag e hz k0 k1
    · exact seek43n h hB hl ao n cap ag e hz k0 k1
end

end Go.Proofs.Ytfnjbbokbdddpaa.M2
namespace Go.Proofs.Ytfnjbbokbdddpaa.M2
open Go.RowKit

section
variable {w : World} {B : Nat} {u : Value} {size : Int} {zs : List Int} {st : Int} {t : Th}

structure SC (w : World) (B : Nat) (u : Value) (size : Int) (u' : Value) (zs' : List Int) (T : Th) (b : Value) (K : Nat) (W : World) : Prop where
  o : W.ownsRow B 2 1 u' zs'.length (zs'.map (Value.int .i64))
  l : Later u u' w
  x : TX W (w.heap.size + 1) T b
  y : Boxed W (w.heap.size + 1 + 1) (.int .i64 0) (.slice none 0 0) (.int .i64 0)
  z : TX W (w.heap.size + 1 + 1 + 1) t0 (.slice none 0 0)
  k : ∃ a c d, Boxed W K a c d
  b : Below w.heap.size w W
  e : K = w.heap.size + 4
section
variable {W W2 : World} {b u' : Value} {zs' : List Int} {T : Th} {K : Nat}
theorem SC.new (h : PB w B u size zs st t b W) : SC w B u size u zs t b W.heap.size (W.alloc (.cells #[.int .i64 size, u, .int .i64 st] 39)) :=
  ⟨own_keep h.o ((Below.refl _ _).alloc (Nat.le_refl _) _), Later.refl _ _, h.x.alloc _, h.y.alloc _, h.z.alloc _, ⟨_, _, _, Boxed.new _ _ _ _⟩, h.b.alloc h.b.size _, by have := h.s; omega⟩
theorem SC.fresh (h : SC w B u size u' zs' T b K W) (hb : Below W.heap.size W W2) : SC w B u size u' zs' T b K W2 :=
  ⟨own_keep h.o hb, h.l, h.x.keep hb, h.y.keep hb, h.z.keep hb, by obtain ⟨a, c, d, k⟩ := h.k; exact ⟨a, c, d, k.keep hb⟩, h.b.trans (hb.mono h.b.size), h.e⟩
theorem SC.call {u2 : Value} {Z : List Int} (h : SC w B u size u' zs' T b K W) (hw : w.heap.size ≤ W.heap.size) (l : Left W B u' Z u2 W2) : SC w B u size u2 Z T b K W2 :=
  ⟨l.1, fun g hg => by
    rcases l.2.1 g hg with h1 | h1
    · exact h.l g h1
    · exact .inr (by omega), h.x.keep l.2.2, h.y.keep l.2.2, h.z.keep l.2.2, by obtain ⟨a, c, d, k⟩ := h.k; exact ⟨a, c, d, k.keep l.2.2⟩, h.b.trans (l.2.2.mono h.b.size), h.e⟩
theorem SC.setK (h : SC w B u size u' zs' T b K W) (st' : Int) : PF w B K (w.heap.size + 1) (w.heap.size + 1 + 1) (w.heap.size + 1 + 1 + 1) u size u' zs' st' T b (setM W K (.int .i64 size) u' (.int .i64 st')) := by
  have e := h.e
  obtain ⟨a, c, d, k⟩ := h.k
  refine ⟨own_at h.o (fun g cs hg => setM_other W (fun e2 => ?_) _ _ _), h.l, k.all _ _ _, (setM_other W (by omega) _ _ _).trans h.x, (setM_other W (by omega) _ _ _).trans h.y, (setM_other W (by omega) _ _ _).trans h.z, setM_below h.b (by omega) _ _ _, by omega, by omega, by omega, by omega, by omega⟩
  subst e2
  unfold Boxed at k
  rw [hg] at k
  simp at k
theorem SC.pf (h : SC w B u size u' zs' T b K W) {N : Nat} {st' : Int} (m : Boxed W N (.int .i64 size) u' (.int .i64 st')) : PF w B N (w.heap.size + 1) (w.heap.size + 1 + 1) (w.heap.size + 1 + 1 + 1) u size u' zs' st' T b W :=
  ⟨h.o, h.l, m, h.x, h.y, h.z, h.b, by omega, by omega, by omega, by omega, by omega⟩
theorem SC.pf2 {T2 : Th} {b2 : Value} {N N2 : Nat} {st' : Int} (h : SC w B u size u' zs' T b K W) (m : Boxed W N (.int .i64 size) u' (.int .i64 st')) (x : TX W N2 T2 b2) (hN : w.heap.size + 4 ≤ N2) : PF w B N N2 (w.heap.size + 1 + 1) (w.heap.size + 1 + 1 + 1) u size u' zs' st' T2 b2 W :=
  ⟨h.o, h.l, m, x, h.y, h.z, h.b, by omega, by omega, by omega, by omega, by omega⟩
theorem PF.thr {N : Nat} {st' : Int} {T2 : Th} {b2 : Value} (h : PF w B N (w.heap.size + 1) (w.heap.size + 1 + 1) (w.heap.size + 1 + 1 + 1) u size u' zs' st' T b W) (hN : N ≠ w.heap.size + 1) : PF w B N (w.heap.size + 1) (w.heap.size + 1 + 1) (w.heap.size + 1 + 1 + 1) u size u' zs' st' T2 b2 (setT W (w.heap.size + 1) T2 b2) := by
  refine ⟨own_at h.o (fun g cs hg => setT_other W (fun e2 => ?_) _ _), h.l, (setT_other W hN _ _).trans h.m, h.x.all _ _, (setT_other W (by omega) _ _).trans h.y, (setT_other W (by omega) _ _).trans h.z, setT_below h.b (by omega) _ _, h.g1, h.g2, h.g3, h.n23, h.n13⟩
  subst e2
  have := h.x
  unfold TX at this
  rw [hg] at this
  simp at this
end
end

end Go.Proofs.Ytfnjbbokbdddpaa.M2
