/-
  Step of reaperref15 at the place 14. Conditions: a document's memory of at most 1000 cells; steps below a million.
-/
import Derived.Test.YthefdglocnalhaaRefS15m
namespace Go.Proofs.Ythefdglocnalhaa.M2
open Go.RowKit

section
variable {w : World} {B : Nat} {u : Value} {size : Int} {zs : List Int} {st : Int} {t : Th}


set_option maxRecDepth 100000 in
set_option maxHeartbeats 16000000 in
theorem rst14 (h : w.ownsRow B 2 1 u zs.length (zs.map (Value.int .i64))) (hB : B ≤ w.heap.size) (hl : zs.length ≤ 1000) (ao : Option Addr) (n cap : Nat) (hp : t.pc = 14) (k0 : 0 ≤ st) (k1 : st < 1000000) :
    Calls Try.prog 22 #[.agg #[.int .i64 size, u, .int .i64 st], thV t (.slice ao n cap)] w (SPost w B u size t (.slice ao n cap) zs st) := by
  obtain ⟨au, cu, rfl⟩ := ownShape h
  rw [show thV t (.slice ao n cap) = .agg #[.int .i64 t.ti, .int .i64 t.pc, .int .i64 t.rc, .int .i64 t.sq, .int .i64 t.wo, .int .i64 t.lk, .int .i64 t.cu, .int .i64 t.pv, .int .i64 t.nt, .int .i64 t.mx, .int .i64 t.ps, .int .i64 t.rn, .slice ao n cap] from rfl]
  have HL := Lib.hid hl
  have HBB := Lib.hid hB
  have HS := Lib.hid (stp14 size t zs hp)
  obtain ⟨W, hW⟩ : ∃ W, ((((w.alloc (.cells #[.int .i64 size, .slice au zs.length cu, .int .i64 st] 37)).alloc (.cells #[.int .i64 t.ti, .int .i64 t.pc, .int .i64 t.rc, .int .i64 t.sq, .int .i64 t.wo, .int .i64 t.lk, .int .i64 t.cu, .int .i64 t.pv, .int .i64 t.nt, .int .i64 t.mx, .int .i64 t.ps, .int .i64 t.rn, .slice ao n cap] 25)).alloc (.cells #[.int .i64 0, .slice none 0 0, .int .i64 0] 37)).alloc (.cells #[.int .i64 0, .int .i64 0, .int .i64 0, .int .i64 0, .int .i64 0, .int .i64 0, .int .i64 0, .int .i64 0, .int .i64 0, .int .i64 0, .int .i64 0, .int .i64 0, .slice none 0 0] 25)).alloc (.cells #[.int .u8 0, .int .i32 0] 49) = W := ⟨_, rfl⟩
  have HP := Lib.hid (QB.new h t (.slice ao n cap) W hW)
  have HW := Lib.hid hW
  have HPC := Lib.hid hp
  clear hW h hl hB hp
  go_enter Try.func22, Try.ntmps22
  go_upto_region 1 with (fail)
  rw [HW.out]
  clear HW
  have x1 := HP.out.x.c1
  rw [HPC.out] at x1
  go_upto_region 34 with (fail)
  have m0 := HP.out.m.c0
  have m1 := HP.out.m.c1
  have m2 := HP.out.m.c2
  have x2 := HP.out.x.c2
  have C := Lib.hid (refLoadD (size := size) HP.out.o (Nat.le_trans HBB.out HP.out.b.size) (wrap64 (t.rc + 4)) k0 k1)
  go_wp2_with fail
  with_reducible refine C.out.mono ?_
  clear C m0 m1 m2 x2
  rintro e w2 ⟨u', rfl, l2⟩
  obtain ⟨a2, q2, rfl⟩ := ownShape l2.1
  go_upto_region 35 with (fail)
  generalize hW3 : w2.alloc (.cells #[.int .i64 size, .slice a2 zs.length q2, .int .i64 (st + cn zs (wrap64 (t.rc + 4)))] 37) = w3
  have HFR := HP.out.call l2 hW3
  have HF := Lib.hid HFR.1
  have HRR := Lib.hid HFR.2
  clear hW3 l2 x1 HFR
  have y5 := HF.out.x.c5
  have yf5 := HF.out.x.f
  go_upto_region 36 with (fail)
  have HF' := Lib.hid (HF.out.set (HF.out.x.s5 (ld zs (wrap64 (t.rc + 4)))))
  clear HF y5 yf5
  have HRR' := Lib.hid (show RB (w3.setCell ⟨w.heap.size + 1, 5, none⟩ (.int .i64 (ld zs (wrap64 (t.rc + 4))))) (w.heap.size + 1 + 1 + 1 + 1) 0 0 from (Below.heap_setCell _ _ _ _ (by simp; omega)).trans HRR.out)
  generalize hV1 : w3.setCell ⟨w.heap.size + 1, 5, none⟩ (.int .i64 (ld zs (wrap64 (t.rc + 4)))) = v1
  rw [hV1] at HRR'
  clear HRR
  have HRR := HRR'
  clear HRR'
  rw [hV1] at HF'
  have HF := HF'
  clear HF' hV1
  have y4 := HF.out.x.c4
  have yf4 := HF.out.x.f
  go_upto_region 37 with (fail)
  have HF' := Lib.hid (HF.out.set (HF.out.x.s4 (0)))
  clear HF y4 yf4
  have HRR' := Lib.hid (show RB (v1.setCell ⟨w.heap.size + 1, 4, none⟩ (.int .i64 (0))) (w.heap.size + 1 + 1 + 1 + 1) 0 0 from (Below.heap_setCell _ _ _ _ (by simp; omega)).trans HRR.out)
  generalize hV2 : v1.setCell ⟨w.heap.size + 1, 4, none⟩ (.int .i64 (0)) = v2
  rw [hV2] at HRR'
  clear HRR
  have HRR := HRR'
  clear HRR'
  rw [hV2] at HF'
  have HF := HF'
  clear HF' hV2
  have y1 := HF.out.x.c1
  have yf1 := HF.out.x.f
  go_upto_region 38 with (fail)
  have HF' := Lib.hid (HF.out.set (HF.out.x.s1 (0)))
  clear HF y1 yf1
  have HRR' := Lib.hid (show RB (v2.setCell ⟨w.heap.size + 1, 1, none⟩ (.int .i64 (0))) (w.heap.size + 1 + 1 + 1 + 1) 0 0 from (Below.heap_setCell _ _ _ _ (by simp; omega)).trans HRR.out)
  generalize hV3 : v2.setCell ⟨w.heap.size + 1, 1, none⟩ (.int .i64 (0)) = v3
  rw [hV3] at HRR'
  clear HRR
  have HRR := HRR'
  clear HRR'
  rw [hV3] at HF'
  have HF := HF'
  clear HF' hV3
  have C := Lib.hid (refOfResA (ld zs (wrap64 (t.rc + 4))) v3)
  go_wp2_with fail
  with_reducible refine C.out.mono ?_
  clear C
  rintro e w5 ⟨rfl, f5⟩
  go_upto_region 39 with (fail)
  generalize hV9 : w5.alloc (.cells #[.int .u8 (rK (ld zs (wrap64 (t.rc + 4)))), .int .i32 (rV (ld zs (wrap64 (t.rc + 4))))] 49) = v9
  have hb9 : Below v3.heap.size v3 v9 := by subst hV9; exact f5.below.alloc f5.below.size _
  have HFx := Lib.hid (HF.out.fresh hb9)
  have HRx := Lib.hid (HRR.out.keep hb9)
  have HZZ := Lib.hid (show RB v9 w5.heap.size (rK (ld zs (wrap64 (t.rc + 4)))) (rV (ld zs (wrap64 (t.rc + 4)))) by subst hV9; exact RB.new w5 _ _)
  have HNB := Lib.hid (show w5.heap.size ≠ w.heap.size + 1 + 1 ∧ w5.heap.size ≠ w.heap.size + 1 + 1 + 1 ∧ w5.heap.size ≠ w.heap.size + 1 + 1 + 1 + 1 by have := f5.below.size; have := HRR.out.lt; omega)
  clear HF HRR hV9 hb9 f5
  have HF := HFx
  have HRR := HRx
  clear HFx HRx
  obtain ⟨T4, hT4⟩ : ∃ T4 : Th, ({ t with lk := ld zs (wrap64 (t.rc + 4)), wo := 0, pc := 0 } : Th) = T4 := ⟨_, rfl⟩
  obtain ⟨s4, hs4⟩ : ∃ s4 : Int, st + cn zs (wrap64 (t.rc + 4)) = s4 := ⟨_, rfl⟩
  have HFF := HF.out
  rw [hT4] at HFF
  rw [hs4] at HFF ⊢
  have HF' := Lib.hid HFF
  have HT4 := Lib.hid (show (stp size t zs).t = T4 from (congrArg Sp.t HS.out).trans hT4)
  have HS4 := Lib.hid (show st + (stp size t zs).c = s4 from (congrArg (fun x => st + Sp.c x) HS.out).trans hs4)
  have HK4 := Lib.hid (show (stp size t zs).k = rK (ld zs (wrap64 (t.rc + 4))) ∧ (stp size t zs).v = rV (ld zs (wrap64 (t.rc + 4))) ∧ (stp size t zs).d = true from ⟨congrArg Sp.k HS.out, congrArg Sp.v HS.out, congrArg Sp.d HS.out⟩)
  have HZ4 := Lib.hid (show (stp size t zs).zs = _ from congrArg Sp.zs HS.out)
  clear HF hT4 hs4 HFF
  have m := HF'.out.m
  have m0 := m.c0
  have m1 := m.c1
  have m2 := m.c2
  have x := HF'.out.x
  have c0 := x.c0
  have c1 := x.c1
  have c2 := x.c2
  have c3 := x.c3
  have c4 := x.c4
  have c5 := x.c5
  have c6 := x.c6
  have c7 := x.c7
  have c8 := x.c8
  have c9 := x.c9
  have c10 := x.c10
  have c11 := x.c11
  have c12 := x.c12
  have y := HF'.out.y
  have y0 := y.c0
  have y1 := y.c1
  have y2 := y.c2
  have yf := y.f
  have z := HF'.out.z
  have r0 := z.c0
  have r1 := z.c1
  have r2 := z.c2
  have r3 := z.c3
  have r4 := z.c4
  have r5 := z.c5
  have r6 := z.c6
  have r7 := z.c7
  have r8 := z.c8
  have r9 := z.c9
  have r10 := z.c10
  have r11 := z.c11
  have r12 := z.c12
  have zf := z.f
  have q0 := HRR.out.c0
  have q1 := HRR.out.c1
  have qf := HRR.out.f
  have zz0 := HZZ.out.c0
  have zz1 := HZZ.out.c1
  have nb1 := HNB.out.1
  have nb2 := HNB.out.2.1
  have nb3 := HNB.out.2.2
  generalize w5.heap.size = N9 at *
  have FIN := HF'.out.fin3 HRR.out (by omega) (by omega) (by omega) (rK (ld zs (wrap64 (t.rc + 4)))) (rV (ld zs (wrap64 (t.rc + 4))))
  generalize w2.heap.size = NN at *
  clear m x y z
  go_region
  go_wp2
  change bodyPost _ _ _ _ _ (((setT (setM v9 (w.heap.size + 1 + 1) (.int .i64 size) (.slice a2 (zs.length) q2) (.int .i64 s4)) (w.heap.size + 1 + 1 + 1) T4 (.slice ao n cap)).setCell ⟨w.heap.size + 1 + 1 + 1 + 1, 0, none⟩ (.int .u8 (rK (ld zs (wrap64 (t.rc + 4)))))).setCell ⟨w.heap.size + 1 + 1 + 1 + 1, 1, none⟩ (.int .i32 (rV (ld zs (wrap64 (t.rc + 4)))))).drew
  generalize (((setT (setM v9 (w.heap.size + 1 + 1) (.int .i64 size) (.slice a2 (zs.length) q2) (.int .i64 s4)) (w.heap.size + 1 + 1 + 1) T4 (.slice ao n cap)).setCell ⟨w.heap.size + 1 + 1 + 1 + 1, 0, none⟩ (.int .u8 (rK (ld zs (wrap64 (t.rc + 4)))))).setCell ⟨w.heap.size + 1 + 1 + 1 + 1, 1, none⟩ (.int .i32 (rV (ld zs (wrap64 (t.rc + 4)))))) = wf at *
  obtain ⟨fm, fx, fr, o', l', b'⟩ := FIN
  have gm : Boxed wf.drew (w.heap.size + 1 + 1) (.int .i64 size) (.slice a2 (zs.length) q2) (.int .i64 s4) := fm
  have gx := fx.drew
  have gr : RB wf.drew (w.heap.size + 1 + 1 + 1 + 1) (rK (ld zs (wrap64 (t.rc + 4)))) (rV (ld zs (wrap64 (t.rc + 4)))) := fr
  refine bodyPost_ret (v := .tuple #[.agg #[.int .i64 size, .slice a2 (zs.length) q2, .int .i64 s4], thV T4 (.slice ao n cap), .agg #[.int .u8 (rK (ld zs (wrap64 (t.rc + 4)))), .int .i32 (rV (ld zs (wrap64 (t.rc + 4))))], .bool true]) (by simp [results, Try.results22, go_sem, thV, gm.c0, gm.c1, gm.c2, gr.c0, gr.c1, gx.c0, gx.c1, gx.c2, gx.c3, gx.c4, gx.c5, gx.c6, gx.c7, gx.c8, gx.c9, gx.c10, gx.c11, gx.c12]) rfl ?_
  exact ⟨_, by rw [HT4.out, HS4.out, HK4.out.1, HK4.out.2.1, HK4.out.2.2], by rw [HZ4.out]; exact ⟨own_at o' (fun _ _ _ => rfl), l', b'.drew⟩⟩
end

end Go.Proofs.Ythefdglocnalhaa.M2
