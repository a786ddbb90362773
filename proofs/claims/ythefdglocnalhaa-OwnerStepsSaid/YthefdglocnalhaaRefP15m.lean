/-
  publish of reaperref15: the places 1 to 5. Conditions: a document's memory of at most 1000 cells; steps below a million.
-/
import Derived.Test.YthefdglocnalhaaRefA15m
namespace Go.Proofs.Ythefdglocnalhaa.M2
open Go.RowKit

section
variable {w : World} {B : Nat} {u : Value} {size : Int} {zs : List Int} {st : Int} {t : Th}

/-- The boxes at the beginning. -/
structure PB (w : World) (B : Nat) (u : Value) (size : Int) (zs : List Int) (st : Int) (t : Th) (b : Value) (W : World) : Prop where
  o : W.ownsRow B 2 1 u zs.length (zs.map (Value.int .i64))
  m : Boxed W w.heap.size (.int .i64 size) u (.int .i64 st)
  x : TX W (w.heap.size + 1) t b
  y : Boxed W (w.heap.size + 1 + 1) (.int .i64 0) (.slice none 0 0) (.int .i64 0)
  z : TX W (w.heap.size + 1 + 1 + 1) t0 (.slice none 0 0)
  b : Below w.heap.size w W
  s : W.heap.size = w.heap.size + 4

theorem PB.new (h : w.ownsRow B 2 1 u zs.length (zs.map (Value.int .i64))) (t : Th) (b : Value) : ∀ W, (((w.alloc (.cells #[.int .i64 size, u, .int .i64 st] 37)).alloc (.cells #[.int .i64 t.ti, .int .i64 t.pc, .int .i64 t.rc, .int .i64 t.sq, .int .i64 t.wo, .int .i64 t.lk, .int .i64 t.cu, .int .i64 t.pv, .int .i64 t.nt, .int .i64 t.mx, .int .i64 t.ps, .int .i64 t.rn, b] 25)).alloc (.cells #[.int .i64 0, .slice none 0 0, .int .i64 0] 37)).alloc (.cells #[.int .i64 0, .int .i64 0, .int .i64 0, .int .i64 0, .int .i64 0, .int .i64 0, .int .i64 0, .int .i64 0, .int .i64 0, .int .i64 0, .int .i64 0, .int .i64 0, .slice none 0 0] 25) = W → PB w B u size zs st t b W := by
  rintro W rfl
  have hb : Below w.heap.size w ((((w.alloc (.cells #[.int .i64 size, u, .int .i64 st] 37)).alloc (.cells #[.int .i64 t.ti, .int .i64 t.pc, .int .i64 t.rc, .int .i64 t.sq, .int .i64 t.wo, .int .i64 t.lk, .int .i64 t.cu, .int .i64 t.pv, .int .i64 t.nt, .int .i64 t.mx, .int .i64 t.ps, .int .i64 t.rn, b] 25)).alloc (.cells #[.int .i64 0, .slice none 0 0, .int .i64 0] 37)).alloc (.cells #[.int .i64 0, .int .i64 0, .int .i64 0, .int .i64 0, .int .i64 0, .int .i64 0, .int .i64 0, .int .i64 0, .int .i64 0, .int .i64 0, .int .i64 0, .int .i64 0, .slice none 0 0] 25)) := ((((Below.refl _ _).alloc (Nat.le_refl _) _).alloc (by simp) _).alloc (by simp; omega) _).alloc (by simp; omega) _
  refine ⟨own_keep h hb, (((Boxed.new _ _ _ _).alloc _).alloc _).alloc _, ?_, ?_, ?_, hb, by simp⟩
  · have := ((TX.new (w.alloc (.cells #[.int .i64 size, u, .int .i64 st] 37)) t b).alloc (.cells #[.int .i64 0, .slice none 0 0, .int .i64 0] 37)).alloc (.cells #[.int .i64 0, .int .i64 0, .int .i64 0, .int .i64 0, .int .i64 0, .int .i64 0, .int .i64 0, .int .i64 0, .int .i64 0, .int .i64 0, .int .i64 0, .int .i64 0, .slice none 0 0] 25)
    simpa using this
  · have := (Boxed.new ((w.alloc (.cells #[.int .i64 size, u, .int .i64 st] 37)).alloc (.cells #[.int .i64 t.ti, .int .i64 t.pc, .int .i64 t.rc, .int .i64 t.sq, .int .i64 t.wo, .int .i64 t.lk, .int .i64 t.cu, .int .i64 t.pv, .int .i64 t.nt, .int .i64 t.mx, .int .i64 t.ps, .int .i64 t.rn, b] 25)) (.int .i64 0) (.slice none 0 0) (.int .i64 0)).alloc (.cells #[.int .i64 0, .int .i64 0, .int .i64 0, .int .i64 0, .int .i64 0, .int .i64 0, .int .i64 0, .int .i64 0, .int .i64 0, .int .i64 0, .int .i64 0, .int .i64 0, .slice none 0 0] 25)
    simpa using this
  · have := TX.new (((w.alloc (.cells #[.int .i64 size, u, .int .i64 st] 37)).alloc (.cells #[.int .i64 t.ti, .int .i64 t.pc, .int .i64 t.rc, .int .i64 t.sq, .int .i64 t.wo, .int .i64 t.lk, .int .i64 t.cu, .int .i64 t.pv, .int .i64 t.nt, .int .i64 t.mx, .int .i64 t.ps, .int .i64 t.rn, b] 25)).alloc (.cells #[.int .i64 0, .slice none 0 0, .int .i64 0] 37)) t0 (.slice none 0 0)
    simpa [t0] using this

/-- Behind the memory's call, what it told in a box of its own. -/
theorem PB.call {W w2 w3 : World} {b u' : Value} {zs' : List Int} {st' : Int} (h : PB w B u size zs st t b W) (l : Left W B u zs' u' w2) (e : w2.alloc (.cells #[.int .i64 size, u', .int .i64 st'] 37) = w3) :
    PF w B w2.heap.size (w.heap.size + 1) (w.heap.size + 1 + 1) (w.heap.size + 1 + 1 + 1) u size u' zs' st' t b w3 := by
  subst e
  obtain ⟨o, lt, bl⟩ := l
  have hb := bl.alloc bl.size (.cells #[.int .i64 size, u', .int .i64 st'] 37)
  exact ⟨o.alloc _, fun g hg => (lt g hg).imp id (fun h1 => by have := h.s; omega), Boxed.new _ _ _ _, h.x.keep hb, h.y.keep hb, h.z.keep hb, h.b.trans (hb.mono h.b.size), by omega, by omega, by omega, by omega, by omega⟩

/-- What publish and link tell. -/
def RPost (w : World) (B : Nat) (u : Value) (size : Int) (t : Th) (b : Value) (zs : List Int) (st : Int) (e : Ending) (w' : World) : Prop :=
  ∃ u', e = .returned (.tuple #[.agg #[.int .i64 size, u', .int .i64 (st + (stp size t zs).c)], thV (stp size t zs).t b]) ∧ Left w B u (stp size t zs).zs u' w'

set_option maxRecDepth 100000 in
set_option maxHeartbeats 16000000 in
theorem pub1y (h : w.ownsRow B 2 1 u zs.length (zs.map (Value.int .i64))) (hB : B ≤ w.heap.size) (hl : zs.length ≤ 1000) (hz : 0 ≤ size ∧ size ≤ 1000 ∧ (zs.length : Int) ≤ size) (hr : rm size zs = true) (ao : Option Addr) (n cap : Nat) (hp : t.pc = 1) (k0 : 0 ≤ st) (k1 : st < 1000000) :
    Calls Try.prog 46 #[.agg #[.int .i64 size, u, .int .i64 st], thV t (.slice ao n cap)] w (RPost w B u size t (.slice ao n cap) zs st) := by
  obtain ⟨au, cu, rfl⟩ := ownShape h
  rw [show thV t (.slice ao n cap) = .agg #[.int .i64 t.ti, .int .i64 t.pc, .int .i64 t.rc, .int .i64 t.sq, .int .i64 t.wo, .int .i64 t.lk, .int .i64 t.cu, .int .i64 t.pv, .int .i64 t.nt, .int .i64 t.mx, .int .i64 t.ps, .int .i64 t.rn, .slice ao n cap] from rfl]
  have HL := Lib.hid hl
  have HBB := Lib.hid hB
  have HS := Lib.hid (show stp size t zs = ⟨{ t with rc := alA size zs, pc := 2 }, alZ size zs, alC size zs, 0, 0, false⟩ by have h1 := stp1 size t zs hp; rw [hr] at h1; exact h1)
  obtain ⟨W, hW⟩ : ∃ W, (((w.alloc (.cells #[.int .i64 size, .slice au zs.length cu, .int .i64 st] 37)).alloc (.cells #[.int .i64 t.ti, .int .i64 t.pc, .int .i64 t.rc, .int .i64 t.sq, .int .i64 t.wo, .int .i64 t.lk, .int .i64 t.cu, .int .i64 t.pv, .int .i64 t.nt, .int .i64 t.mx, .int .i64 t.ps, .int .i64 t.rn, .slice ao n cap] 25)).alloc (.cells #[.int .i64 0, .slice none 0 0, .int .i64 0] 37)).alloc (.cells #[.int .i64 0, .int .i64 0, .int .i64 0, .int .i64 0, .int .i64 0, .int .i64 0, .int .i64 0, .int .i64 0, .int .i64 0, .int .i64 0, .int .i64 0, .int .i64 0, .slice none 0 0] 25) = W := ⟨_, rfl⟩
  have HP := Lib.hid (PB.new h t (.slice ao n cap) W hW)
  have HW := Lib.hid hW
  have HPC := Lib.hid hp
  clear hW h hl hB hp
  go_enter Try.func46, Try.ntmps46
  go_upto_region 1 with (fail)
  rw [HW.out]
  clear HW
  have x1 := HP.out.x.c1
  rw [HPC.out] at x1
  go_upto_region 3 with (fail)
  have m0 := HP.out.m.c0
  have m1 := HP.out.m.c1
  have m2 := HP.out.m.c2
  have C := Lib.hid (by have C := refAllocD (size := size) HP.out.o (Nat.le_trans HBB.out HP.out.b.size) hz.1 hz.2.1 hz.2.2 k0 k1; rw [show alE size zs = 0 from if_pos hr] at C; exact C)
  go_wp2_with fail
  with_reducible refine C.out.mono ?_
  clear C m0 m1 m2
  rintro e w2 ⟨u', rfl, l2⟩
  obtain ⟨a2, q2, rfl⟩ := ownShape l2.1
  go_upto_region 5 with (fail)
  generalize hW3 : w2.alloc (.cells #[.int .i64 size, .slice a2 (alZ size zs).length q2, .int .i64 (st + alC size zs)] 37) = w3
  have HF := Lib.hid (HP.out.call l2 hW3)
  clear hW3 l2 x1
  have y2 := HF.out.x.c2
  have yf2 := HF.out.x.f
  go_upto_region 6 with (fail)
  have HF' := Lib.hid (HF.out.set (HF.out.x.s2 (alA size zs)))
  clear HF y2 yf2
  generalize hV1 : w3.setCell ⟨w.heap.size + 1, 2, none⟩ (.int .i64 (alA size zs)) = v1
  rw [hV1] at HF'
  have HF := HF'
  clear HF' hV1
  have y1 := HF.out.x.c1
  have yf1 := HF.out.x.f
  go_upto_region 7 with (fail)
  have HF' := Lib.hid (HF.out.set (HF.out.x.s1 (2)))
  clear HF y1 yf1
  generalize hV2 : v1.setCell ⟨w.heap.size + 1, 1, none⟩ (.int .i64 (2)) = v2
  rw [hV2] at HF'
  have HF := HF'
  clear HF' hV2
  obtain ⟨T4, hT4⟩ : ∃ T4 : Th, ({ t with rc := alA size zs, pc := 2 } : Th) = T4 := ⟨_, rfl⟩
  obtain ⟨s4, hs4⟩ : ∃ s4 : Int, st + alC size zs = s4 := ⟨_, rfl⟩
  have HFF := HF.out
  rw [hT4] at HFF
  rw [hs4] at HFF ⊢
  have HF' := Lib.hid HFF
  have HT4 := Lib.hid (show (stp size t zs).t = T4 from (congrArg Sp.t HS.out).trans hT4)
  have HS4 := Lib.hid (show st + (stp size t zs).c = s4 from (congrArg (fun x => st + Sp.c x) HS.out).trans hs4)
  have HZ4 := Lib.hid (show (stp size t zs).zs = _ from congrArg Sp.zs HS.out)
  clear HF hT4 hs4 HFF
  have m := HF'.out.m
  have m0 := m.c0
  have m1 := m.c1
  have m2 := m.c2
  have x := HF'.out.x
  have c0 := x.c0
  have c1 := x.c1
  have c2 := x.c2
  have c3 := x.c3
  have c4 := x.c4
  have c5 := x.c5
  have c6 := x.c6
  have c7 := x.c7
  have c8 := x.c8
  have c9 := x.c9
  have c10 := x.c10
  have c11 := x.c11
  have c12 := x.c12
  have y := HF'.out.y
  have y0 := y.c0
  have y1 := y.c1
  have y2 := y.c2
  have yf := y.f
  have z := HF'.out.z
  have r0 := z.c0
  have r1 := z.c1
  have r2 := z.c2
  have r3 := z.c3
  have r4 := z.c4
  have r5 := z.c5
  have r6 := z.c6
  have r7 := z.c7
  have r8 := z.c8
  have r9 := z.c9
  have r10 := z.c10
  have r11 := z.c11
  have r12 := z.c12
  have zf := z.f
  have FIN := HF'.out.fin
  generalize w2.heap.size = NN at *
  clear m x y z
  go_region
  go_wp2
  change bodyPost _ _ _ _ _ (setT (setM v2 (w.heap.size + 1 + 1) (.int .i64 size) (.slice a2 ((alZ size zs).length) q2) (.int .i64 s4)) (w.heap.size + 1 + 1 + 1) T4 (.slice ao n cap)).drew
  generalize setT (setM v2 (w.heap.size + 1 + 1) (.int .i64 size) (.slice a2 ((alZ size zs).length) q2) (.int .i64 s4)) (w.heap.size + 1 + 1 + 1) T4 (.slice ao n cap) = wf at *
  obtain ⟨fm, fx, o', l', b'⟩ := FIN
  have gm : Boxed wf.drew (w.heap.size + 1 + 1) (.int .i64 size) (.slice a2 ((alZ size zs).length) q2) (.int .i64 s4) := fm
  have gx := fx.drew
  refine bodyPost_ret (v := .tuple #[.agg #[.int .i64 size, .slice a2 ((alZ size zs).length) q2, .int .i64 s4], thV T4 (.slice ao n cap)]) (by simp [results, Try.results46, go_sem, thV, gm.c0, gm.c1, gm.c2, gx.c0, gx.c1, gx.c2, gx.c3, gx.c4, gx.c5, gx.c6, gx.c7, gx.c8, gx.c9, gx.c10, gx.c11, gx.c12]) rfl ?_
  exact ⟨_, by rw [HT4.out, HS4.out], by rw [HZ4.out]; exact ⟨own_at o' (fun _ _ _ => rfl), l', b'.drew⟩⟩

set_option maxRecDepth 100000 in
set_option maxHeartbeats 16000000 in
theorem pub1n (h : w.ownsRow B 2 1 u zs.length (zs.map (Value.int .i64))) (hB : B ≤ w.heap.size) (hl : zs.length ≤ 1000) (hz : 0 ≤ size ∧ size ≤ 1000 ∧ (zs.length : Int) ≤ size) (hr : rm size zs = false) (ao : Option Addr) (n cap : Nat) (hp : t.pc = 1) (k0 : 0 ≤ st) (k1 : st < 1000000) :
    Calls Try.prog 46 #[.agg #[.int .i64 size, u, .int .i64 st], thV t (.slice ao n cap)] w (RPost w B u size t (.slice ao n cap) zs st) := by
  obtain ⟨au, cu, rfl⟩ := ownShape h
  rw [show thV t (.slice ao n cap) = .agg #[.int .i64 t.ti, .int .i64 t.pc, .int .i64 t.rc, .int .i64 t.sq, .int .i64 t.wo, .int .i64 t.lk, .int .i64 t.cu, .int .i64 t.pv, .int .i64 t.nt, .int .i64 t.mx, .int .i64 t.ps, .int .i64 t.rn, .slice ao n cap] from rfl]
  have HL := Lib.hid hl
  have HBB := Lib.hid hB
  have HS := Lib.hid (show stp size t zs = ⟨t, alZ size zs, alC size zs, 0, 0, false⟩ by have h1 := stp1 size t zs hp; rw [hr] at h1; rw [h1]; exact congrArg (fun x => (⟨x, alZ size zs, alC size zs, 0, 0, false⟩ : Sp)) (Th.same1 t hp))
  obtain ⟨W, hW⟩ : ∃ W, (((w.alloc (.cells #[.int .i64 size, .slice au zs.length cu, .int .i64 st] 37)).alloc (.cells #[.int .i64 t.ti, .int .i64 t.pc, .int .i64 t.rc, .int .i64 t.sq, .int .i64 t.wo, .int .i64 t.lk, .int .i64 t.cu, .int .i64 t.pv, .int .i64 t.nt, .int .i64 t.mx, .int .i64 t.ps, .int .i64 t.rn, .slice ao n cap] 25)).alloc (.cells #[.int .i64 0, .slice none 0 0, .int .i64 0] 37)).alloc (.cells #[.int .i64 0, .int .i64 0, .int .i64 0, .int .i64 0, .int .i64 0, .int .i64 0, .int .i64 0, .int .i64 0, .int .i64 0, .int .i64 0, .int .i64 0, .int .i64 0, .slice none 0 0] 25) = W := ⟨_, rfl⟩
  have HP := Lib.hid (PB.new h t (.slice ao n cap) W hW)
  have HW := Lib.hid hW
  have HPC := Lib.hid hp
  clear hW h hl hB hp
  go_enter Try.func46, Try.ntmps46
  go_upto_region 1 with (fail)
  rw [HW.out]
  clear HW
  have x1 := HP.out.x.c1
  rw [HPC.out] at x1
  go_upto_region 3 with (fail)
  have m0 := HP.out.m.c0
  have m1 := HP.out.m.c1
  have m2 := HP.out.m.c2
  have C := Lib.hid (by have C := refAllocD (size := size) HP.out.o (Nat.le_trans HBB.out HP.out.b.size) hz.1 hz.2.1 hz.2.2 k0 k1; rw [show alE size zs = 11 from if_neg (by rw [hr]; decide)] at C; exact C)
  go_wp2_with fail
  with_reducible refine C.out.mono ?_
  clear C m0 m1 m2
  rintro e w2 ⟨u', rfl, l2⟩
  obtain ⟨a2, q2, rfl⟩ := ownShape l2.1
  go_upto_region 7 with (fail)
  generalize hW3 : w2.alloc (.cells #[.int .i64 size, .slice a2 (alZ size zs).length q2, .int .i64 (st + alC size zs)] 37) = w3
  have HF := Lib.hid (HP.out.call l2 hW3)
  clear hW3 l2 x1
  obtain ⟨T4, hT4⟩ : ∃ T4 : Th, t = T4 := ⟨_, rfl⟩
  obtain ⟨s4, hs4⟩ : ∃ s4 : Int, st + alC size zs = s4 := ⟨_, rfl⟩
  have HFF := HF.out
  rw [hT4] at HFF
  rw [hs4] at HFF ⊢
  have HF' := Lib.hid HFF
  have HT4 := Lib.hid (show (stp size t zs).t = T4 from (congrArg Sp.t HS.out).trans hT4)
  have HS4 := Lib.hid (show st + (stp size t zs).c = s4 from (congrArg (fun x => st + Sp.c x) HS.out).trans hs4)
  have HZ4 := Lib.hid (show (stp size t zs).zs = _ from congrArg Sp.zs HS.out)
  clear HF hT4 hs4 HFF
  have m := HF'.out.m
  have m0 := m.c0
  have m1 := m.c1
  have m2 := m.c2
  have x := HF'.out.x
  have c0 := x.c0
  have c1 := x.c1
  have c2 := x.c2
  have c3 := x.c3
  have c4 := x.c4
  have c5 := x.c5
  have c6 := x.c6
  have c7 := x.c7
  have c8 := x.c8
  have c9 := x.c9
  have c10 := x.c10
  have c11 := x.c11
  have c12 := x.c12
  have y := HF'.out.y
  have y0 := y.c0
  have y1 := y.c1
  have y2 := y.c2
  have yf := y.f
  have z := HF'.out.z
  have r0 := z.c0
  have r1 := z.c1
  have r2 := z.c2
  have r3 := z.c3
  have r4 := z.c4
  have r5 := z.c5
  have r6 := z.c6
  have r7 := z.c7
  have r8 := z.c8
  have r9 := z.c9
  have r10 := z.c10
  have r11 := z.c11
  have r12 := z.c12
  have zf := z.f
  have FIN := HF'.out.fin
  generalize w2.heap.size = NN at *
  clear m x y z
  go_region
  go_wp2
  change bodyPost _ _ _ _ _ (setT (setM w3 (w.heap.size + 1 + 1) (.int .i64 size) (.slice a2 ((alZ size zs).length) q2) (.int .i64 s4)) (w.heap.size + 1 + 1 + 1) T4 (.slice ao n cap)).drew
  generalize setT (setM w3 (w.heap.size + 1 + 1) (.int .i64 size) (.slice a2 ((alZ size zs).length) q2) (.int .i64 s4)) (w.heap.size + 1 + 1 + 1) T4 (.slice ao n cap) = wf at *
  obtain ⟨fm, fx, o', l', b'⟩ := FIN
  have gm : Boxed wf.drew (w.heap.size + 1 + 1) (.int .i64 size) (.slice a2 ((alZ size zs).length) q2) (.int .i64 s4) := fm
  have gx := fx.drew
  refine bodyPost_ret (v := .tuple #[.agg #[.int .i64 size, .slice a2 ((alZ size zs).length) q2, .int .i64 s4], thV T4 (.slice ao n cap)]) (by simp [results, Try.results46, go_sem, thV, gm.c0, gm.c1, gm.c2, gx.c0, gx.c1, gx.c2, gx.c3, gx.c4, gx.c5, gx.c6, gx.c7, gx.c8, gx.c9, gx.c10, gx.c11, gx.c12]) rfl ?_
  exact ⟨_, by rw [HT4.out, HS4.out], by rw [HZ4.out]; exact ⟨own_at o' (fun _ _ _ => rfl), l', b'.drew⟩⟩

set_option maxRecDepth 100000 in
set_option maxHeartbeats 16000000 in
theorem pub2 (h : w.ownsRow B 2 1 u zs.length (zs.map (Value.int .i64))) (hB : B ≤ w.heap.size) (hl : zs.length ≤ 1000) (ao : Option Addr) (n cap : Nat) (hp : t.pc = 2) (k0 : 0 ≤ st) (k1 : st < 1000000) :
    Calls Try.prog 46 #[.agg #[.int .i64 size, u, .int .i64 st], thV t (.slice ao n cap)] w (RPost w B u size t (.slice ao n cap) zs st) := by
  obtain ⟨au, cu, rfl⟩ := ownShape h
  rw [show thV t (.slice ao n cap) = .agg #[.int .i64 t.ti, .int .i64 t.pc, .int .i64 t.rc, .int .i64 t.sq, .int .i64 t.wo, .int .i64 t.lk, .int .i64 t.cu, .int .i64 t.pv, .int .i64 t.nt, .int .i64 t.mx, .int .i64 t.ps, .int .i64 t.rn, .slice ao n cap] from rfl]
  have HL := Lib.hid hl
  have HBB := Lib.hid hB
  have HS := Lib.hid (stp2 size t zs hp)
  obtain ⟨W, hW⟩ : ∃ W, (((w.alloc (.cells #[.int .i64 size, .slice au zs.length cu, .int .i64 st] 37)).alloc (.cells #[.int .i64 t.ti, .int .i64 t.pc, .int .i64 t.rc, .int .i64 t.sq, .int .i64 t.wo, .int .i64 t.lk, .int .i64 t.cu, .int .i64 t.pv, .int .i64 t.nt, .int .i64 t.mx, .int .i64 t.ps, .int .i64 t.rn, .slice ao n cap] 25)).alloc (.cells #[.int .i64 0, .slice none 0 0, .int .i64 0] 37)).alloc (.cells #[.int .i64 0, .int .i64 0, .int .i64 0, .int .i64 0, .int .i64 0, .int .i64 0, .int .i64 0, .int .i64 0, .int .i64 0, .int .i64 0, .int .i64 0, .int .i64 0, .slice none 0 0] 25) = W := ⟨_, rfl⟩
  have HP := Lib.hid (PB.new h t (.slice ao n cap) W hW)
  have HW := Lib.hid hW
  have HPC := Lib.hid hp
  clear hW h hl hB hp
  go_enter Try.func46, Try.ntmps46
  go_upto_region 1 with (fail)
  rw [HW.out]
  clear HW
  have x1 := HP.out.x.c1
  rw [HPC.out] at x1
  go_upto_region 9 with (fail)
  have m0 := HP.out.m.c0
  have m1 := HP.out.m.c1
  have m2 := HP.out.m.c2
  have x2 := HP.out.x.c2
  have x4 := HP.out.x.c4
  have C := Lib.hid (refSwapD (size := size) HP.out.o (Nat.le_trans HBB.out HP.out.b.size) HL.out t.rc 0 t.wo k0 k1)
  go_wp2_with fail
  with_reducible refine C.out.mono ?_
  clear C m0 m1 m2 x2 x4
  rintro e w2 ⟨u', rfl, l2⟩
  obtain ⟨a2, q2, rfl⟩ := ownShape l2.1
  go_upto_region 10 with (fail)
  generalize hW3 : w2.alloc (.cells #[.int .i64 size, .slice a2 (swp zs t.rc 0 t.wo).length q2, .int .i64 (st + cn zs t.rc)] 37) = w3
  have HF := Lib.hid (HP.out.call l2 hW3)
  clear hW3 l2 x1
  have C := Lib.hid (firstA (swb zs t.rc 0) 5 3 w3)
  have y1 := HF.out.x.c1
  have yf1 := HF.out.x.f
  go_wp2_with fail
  with_reducible refine C.out.mono ?_
  clear C
  rintro e w' ⟨rfl, rfl⟩
  go_upto_region 11 with (fail)
  have HF' := Lib.hid (HF.out.set (HF.out.x.s1 (fk (swb zs t.rc 0) 5 3)))
  clear HF y1 yf1
  generalize hV1 : w3.setCell ⟨w.heap.size + 1, 1, none⟩ (.int .i64 (fk (swb zs t.rc 0) 5 3)) = v1
  rw [hV1] at HF'
  have HF := HF'
  clear HF' hV1
  obtain ⟨T4, hT4⟩ : ∃ T4 : Th, ({ t with pc := fk (swb zs t.rc 0) 5 3 } : Th) = T4 := ⟨_, rfl⟩
  obtain ⟨s4, hs4⟩ : ∃ s4 : Int, st + cn zs t.rc = s4 := ⟨_, rfl⟩
  have HFF := HF.out
  rw [hT4] at HFF
  rw [hs4] at HFF ⊢
  have HF' := Lib.hid HFF
  have HT4 := Lib.hid (show (stp size t zs).t = T4 from (congrArg Sp.t HS.out).trans hT4)
  have HS4 := Lib.hid (show st + (stp size t zs).c = s4 from (congrArg (fun x => st + Sp.c x) HS.out).trans hs4)
  have HZ4 := Lib.hid (show (stp size t zs).zs = _ from congrArg Sp.zs HS.out)
  clear HF hT4 hs4 HFF
  have m := HF'.out.m
  have m0 := m.c0
  have m1 := m.c1
  have m2 := m.c2
  have x := HF'.out.x
  have c0 := x.c0
  have c1 := x.c1
  have c2 := x.c2
  have c3 := x.c3
  have c4 := x.c4
  have c5 := x.c5
  have c6 := x.c6
  have c7 := x.c7
  have c8 := x.c8
  have c9 := x.c9
  have c10 := x.c10
  have c11 := x.c11
  have c12 := x.c12
  have y := HF'.out.y
  have y0 := y.c0
  have y1 := y.c1
  have y2 := y.c2
  have yf := y.f
  have z := HF'.out.z
  have r0 := z.c0
  have r1 := z.c1
  have r2 := z.c2
  have r3 := z.c3
  have r4 := z.c4
  have r5 := z.c5
  have r6 := z.c6
  have r7 := z.c7
  have r8 := z.c8
  have r9 := z.c9
  have r10 := z.c10
  have r11 := z.c11
  have r12 := z.c12
  have zf := z.f
  have FIN := HF'.out.fin
  generalize w2.heap.size = NN at *
  clear m x y z
  go_region
  go_wp2
  change bodyPost _ _ _ _ _ (setT (setM v1 (w.heap.size + 1 + 1) (.int .i64 size) (.slice a2 ((swp zs t.rc 0 t.wo).length) q2) (.int .i64 s4)) (w.heap.size + 1 + 1 + 1) T4 (.slice ao n cap)).drew
  generalize setT (setM v1 (w.heap.size + 1 + 1) (.int .i64 size) (.slice a2 ((swp zs t.rc 0 t.wo).length) q2) (.int .i64 s4)) (w.heap.size + 1 + 1 + 1) T4 (.slice ao n cap) = wf at *
  obtain ⟨fm, fx, o', l', b'⟩ := FIN
  have gm : Boxed wf.drew (w.heap.size + 1 + 1) (.int .i64 size) (.slice a2 ((swp zs t.rc 0 t.wo).length) q2) (.int .i64 s4) := fm
  have gx := fx.drew
  refine bodyPost_ret (v := .tuple #[.agg #[.int .i64 size, .slice a2 ((swp zs t.rc 0 t.wo).length) q2, .int .i64 s4], thV T4 (.slice ao n cap)]) (by simp [results, Try.results46, go_sem, thV, gm.c0, gm.c1, gm.c2, gx.c0, gx.c1, gx.c2, gx.c3, gx.c4, gx.c5, gx.c6, gx.c7, gx.c8, gx.c9, gx.c10, gx.c11, gx.c12]) rfl ?_
  exact ⟨_, by rw [HT4.out, HS4.out], by rw [HZ4.out]; exact ⟨own_at o' (fun _ _ _ => rfl), l', b'.drew⟩⟩

set_option maxRecDepth 100000 in
set_option maxHeartbeats 16000000 in
theorem pub3 (h : w.ownsRow B 2 1 u zs.length (zs.map (Value.int .i64))) (hB : B ≤ w.heap.size) (hl : zs.length ≤ 1000) (ao : Option Addr) (n cap : Nat) (hp : t.pc = 3) (k0 : 0 ≤ st) (k1 : st < 1000000) :
    Calls Try.prog 46 #[.agg #[.int .i64 size, u, .int .i64 st], thV t (.slice ao n cap)] w (RPost w B u size t (.slice ao n cap) zs st) := by
  obtain ⟨au, cu, rfl⟩ := ownShape h
  rw [show thV t (.slice ao n cap) = .agg #[.int .i64 t.ti, .int .i64 t.pc, .int .i64 t.rc, .int .i64 t.sq, .int .i64 t.wo, .int .i64 t.lk, .int .i64 t.cu, .int .i64 t.pv, .int .i64 t.nt, .int .i64 t.mx, .int .i64 t.ps, .int .i64 t.rn, .slice ao n cap] from rfl]
  have HL := Lib.hid hl
  have HBB := Lib.hid hB
  have HS := Lib.hid (stp3 size t zs hp)
  obtain ⟨W, hW⟩ : ∃ W, (((w.alloc (.cells #[.int .i64 size, .slice au zs.length cu, .int .i64 st] 37)).alloc (.cells #[.int .i64 t.ti, .int .i64 t.pc, .int .i64 t.rc, .int .i64 t.sq, .int .i64 t.wo, .int .i64 t.lk, .int .i64 t.cu, .int .i64 t.pv, .int .i64 t.nt, .int .i64 t.mx, .int .i64 t.ps, .int .i64 t.rn, .slice ao n cap] 25)).alloc (.cells #[.int .i64 0, .slice none 0 0, .int .i64 0] 37)).alloc (.cells #[.int .i64 0, .int .i64 0, .int .i64 0, .int .i64 0, .int .i64 0, .int .i64 0, .int .i64 0, .int .i64 0, .int .i64 0, .int .i64 0, .int .i64 0, .int .i64 0, .slice none 0 0] 25) = W := ⟨_, rfl⟩
  have HP := Lib.hid (PB.new h t (.slice ao n cap) W hW)
  have HW := Lib.hid hW
  have HPC := Lib.hid hp
  clear hW h hl hB hp
  go_enter Try.func46, Try.ntmps46
  go_upto_region 1 with (fail)
  rw [HW.out]
  clear HW
  have x1 := HP.out.x.c1
  rw [HPC.out] at x1
  go_upto_region 13 with (fail)
  have m0 := HP.out.m.c0
  have m1 := HP.out.m.c1
  have m2 := HP.out.m.c2
  have x2 := HP.out.x.c2
  have C := Lib.hid (refLoadD (size := size) HP.out.o (Nat.le_trans HBB.out HP.out.b.size) (wrap64 (t.rc + 1)) k0 k1)
  go_wp2_with fail
  with_reducible refine C.out.mono ?_
  clear C m0 m1 m2 x2
  rintro e w2 ⟨u', rfl, l2⟩
  obtain ⟨a2, q2, rfl⟩ := ownShape l2.1
  go_upto_region 14 with (fail)
  generalize hW3 : w2.alloc (.cells #[.int .i64 size, .slice a2 zs.length q2, .int .i64 (st + cn zs (wrap64 (t.rc + 1)))] 37) = w3
  have HF := Lib.hid (HP.out.call l2 hW3)
  clear hW3 l2 x1
  have y5 := HF.out.x.c5
  have yf5 := HF.out.x.f
  go_upto_region 15 with (fail)
  have HF' := Lib.hid (HF.out.set (HF.out.x.s5 (ld zs (wrap64 (t.rc + 1)))))
  clear HF y5 yf5
  generalize hV1 : w3.setCell ⟨w.heap.size + 1, 5, none⟩ (.int .i64 (ld zs (wrap64 (t.rc + 1)))) = v1
  rw [hV1] at HF'
  have HF := HF'
  clear HF' hV1
  have C := Lib.hid (firstA (ld zs (wrap64 (t.rc + 1)) == 0) 4 3 v1)
  have y1 := HF.out.x.c1
  have yf1 := HF.out.x.f
  go_wp2_with fail
  with_reducible refine C.out.mono ?_
  clear C
  rintro e w' ⟨rfl, rfl⟩
  go_upto_region 16 with (fail)
  have HF' := Lib.hid (HF.out.set (HF.out.x.s1 (fk (ld zs (wrap64 (t.rc + 1)) == 0) 4 3)))
  clear HF y1 yf1
  generalize hV2 : v1.setCell ⟨w.heap.size + 1, 1, none⟩ (.int .i64 (fk (ld zs (wrap64 (t.rc + 1)) == 0) 4 3)) = v2
  rw [hV2] at HF'
  have HF := HF'
  clear HF' hV2
  obtain ⟨T4, hT4⟩ : ∃ T4 : Th, ({ t with lk := ld zs (wrap64 (t.rc + 1)), pc := fk (ld zs (wrap64 (t.rc + 1)) == 0) 4 3 } : Th) = T4 := ⟨_, rfl⟩
  obtain ⟨s4, hs4⟩ : ∃ s4 : Int, st + cn zs (wrap64 (t.rc + 1)) = s4 := ⟨_, rfl⟩
  have HFF := HF.out
  rw [hT4] at HFF
  rw [hs4] at HFF ⊢
  have HF' := Lib.hid HFF
  have HT4 := Lib.hid (show (stp size t zs).t = T4 from (congrArg Sp.t HS.out).trans hT4)
  have HS4 := Lib.hid (show st + (stp size t zs).c = s4 from (congrArg (fun x => st + Sp.c x) HS.out).trans hs4)
  have HZ4 := Lib.hid (show (stp size t zs).zs = _ from congrArg Sp.zs HS.out)
  clear HF hT4 hs4 HFF
  have m := HF'.out.m
  have m0 := m.c0
  have m1 := m.c1
  have m2 := m.c2
  have x := HF'.out.x
  have c0 := x.c0
  have c1 := x.c1
  have c2 := x.c2
  have c3 := x.c3
  have c4 := x.c4
  have c5 := x.c5
  have c6 := x.c6
  have c7 := x.c7
  have c8 := x.c8
  have c9 := x.c9
  have c10 := x.c10
  have c11 := x.c11
  have c12 := x.c12
  have y := HF'.out.y
  have y0 := y.c0
  have y1 := y.c1
  have y2 := y.c2
  have yf := y.f
  have z := HF'.out.z
  have r0 := z.c0
  have r1 := z.c1
  have r2 := z.c2
  have r3 := z.c3
  have r4 := z.c4
  have r5 := z.c5
  have r6 := z.c6
  have r7 := z.c7
  have r8 := z.c8
  have r9 := z.c9
  have r10 := z.c10
  have r11 := z.c11
  have r12 := z.c12
  have zf := z.f
  have FIN := HF'.out.fin
  generalize w2.heap.size = NN at *
  clear m x y z
  go_region
  go_wp2
  change bodyPost _ _ _ _ _ (setT (setM v2 (w.heap.size + 1 + 1) (.int .i64 size) (.slice a2 (zs.length) q2) (.int .i64 s4)) (w.heap.size + 1 + 1 + 1) T4 (.slice ao n cap)).drew
  generalize setT (setM v2 (w.heap.size + 1 + 1) (.int .i64 size) (.slice a2 (zs.length) q2) (.int .i64 s4)) (w.heap.size + 1 + 1 + 1) T4 (.slice ao n cap) = wf at *
  obtain ⟨fm, fx, o', l', b'⟩ := FIN
  have gm : Boxed wf.drew (w.heap.size + 1 + 1) (.int .i64 size) (.slice a2 (zs.length) q2) (.int .i64 s4) := fm
  have gx := fx.drew
  refine bodyPost_ret (v := .tuple #[.agg #[.int .i64 size, .slice a2 (zs.length) q2, .int .i64 s4], thV T4 (.slice ao n cap)]) (by simp [results, Try.results46, go_sem, thV, gm.c0, gm.c1, gm.c2, gx.c0, gx.c1, gx.c2, gx.c3, gx.c4, gx.c5, gx.c6, gx.c7, gx.c8, gx.c9, gx.c10, gx.c11, gx.c12]) rfl ?_
  exact ⟨_, by rw [HT4.out, HS4.out], by rw [HZ4.out]; exact ⟨own_at o' (fun _ _ _ => rfl), l', b'.drew⟩⟩

set_option maxRecDepth 100000 in
set_option maxHeartbeats 16000000 in
theorem pub4 (h : w.ownsRow B 2 1 u zs.length (zs.map (Value.int .i64))) (hB : B ≤ w.heap.size) (hl : zs.length ≤ 1000) (ao : Option Addr) (n cap : Nat) (hp : t.pc = 4) (k0 : 0 ≤ st) (k1 : st < 1000000) :
    Calls Try.prog 46 #[.agg #[.int .i64 size, u, .int .i64 st], thV t (.slice ao n cap)] w (RPost w B u size t (.slice ao n cap) zs st) := by
  obtain ⟨au, cu, rfl⟩ := ownShape h
  rw [show thV t (.slice ao n cap) = .agg #[.int .i64 t.ti, .int .i64 t.pc, .int .i64 t.rc, .int .i64 t.sq, .int .i64 t.wo, .int .i64 t.lk, .int .i64 t.cu, .int .i64 t.pv, .int .i64 t.nt, .int .i64 t.mx, .int .i64 t.ps, .int .i64 t.rn, .slice ao n cap] from rfl]
  have HL := Lib.hid hl
  have HBB := Lib.hid hB
  have HS := Lib.hid (stp4 size t zs hp)
  obtain ⟨W, hW⟩ : ∃ W, (((w.alloc (.cells #[.int .i64 size, .slice au zs.length cu, .int .i64 st] 37)).alloc (.cells #[.int .i64 t.ti, .int .i64 t.pc, .int .i64 t.rc, .int .i64 t.sq, .int .i64 t.wo, .int .i64 t.lk, .int .i64 t.cu, .int .i64 t.pv, .int .i64 t.nt, .int .i64 t.mx, .int .i64 t.ps, .int .i64 t.rn, .slice ao n cap] 25)).alloc (.cells #[.int .i64 0, .slice none 0 0, .int .i64 0] 37)).alloc (.cells #[.int .i64 0, .int .i64 0, .int .i64 0, .int .i64 0, .int .i64 0, .int .i64 0, .int .i64 0, .int .i64 0, .int .i64 0, .int .i64 0, .int .i64 0, .int .i64 0, .slice none 0 0] 25) = W := ⟨_, rfl⟩
  have HP := Lib.hid (PB.new h t (.slice ao n cap) W hW)
  have HW := Lib.hid hW
  have HPC := Lib.hid hp
  clear hW h hl hB hp
  go_enter Try.func46, Try.ntmps46
  go_upto_region 1 with (fail)
  rw [HW.out]
  clear HW
  have x1 := HP.out.x.c1
  rw [HPC.out] at x1
  go_upto_region 18 with (fail)
  have m0 := HP.out.m.c0
  have m1 := HP.out.m.c1
  have m2 := HP.out.m.c2
  have x2 := HP.out.x.c2
  have x4 := HP.out.x.c4
  have C := Lib.hid (refStoreD (size := size) HP.out.o (Nat.le_trans HBB.out HP.out.b.size) HL.out t.rc t.wo k0 k1)
  go_wp2_with fail
  with_reducible refine C.out.mono ?_
  clear C m0 m1 m2 x2 x4
  rintro e w2 ⟨u', rfl, l2⟩
  obtain ⟨a2, q2, rfl⟩ := ownShape l2.1
  go_upto_region 19 with (fail)
  generalize hW3 : w2.alloc (.cells #[.int .i64 size, .slice a2 (sto zs t.rc t.wo).length q2, .int .i64 (st + cn zs t.rc)] 37) = w3
  have HF := Lib.hid (HP.out.call l2 hW3)
  clear hW3 l2 x1
  have y1 := HF.out.x.c1
  have yf1 := HF.out.x.f
  go_upto_region 20 with (fail)
  have HF' := Lib.hid (HF.out.set (HF.out.x.s1 (5)))
  clear HF y1 yf1
  generalize hV1 : w3.setCell ⟨w.heap.size + 1, 1, none⟩ (.int .i64 (5)) = v1
  rw [hV1] at HF'
  have HF := HF'
  clear HF' hV1
  obtain ⟨T4, hT4⟩ : ∃ T4 : Th, ({ t with pc := 5 } : Th) = T4 := ⟨_, rfl⟩
  obtain ⟨s4, hs4⟩ : ∃ s4 : Int, st + cn zs t.rc = s4 := ⟨_, rfl⟩
  have HFF := HF.out
  rw [hT4] at HFF
  rw [hs4] at HFF ⊢
  have HF' := Lib.hid HFF
  have HT4 := Lib.hid (show (stp size t zs).t = T4 from (congrArg Sp.t HS.out).trans hT4)
  have HS4 := Lib.hid (show st + (stp size t zs).c = s4 from (congrArg (fun x => st + Sp.c x) HS.out).trans hs4)
  have HZ4 := Lib.hid (show (stp size t zs).zs = _ from congrArg Sp.zs HS.out)
  clear HF hT4 hs4 HFF
  have m := HF'.out.m
  have m0 := m.c0
  have m1 := m.c1
  have m2 := m.c2
  have x := HF'.out.x
  have c0 := x.c0
  have c1 := x.c1
  have c2 := x.c2
  have c3 := x.c3
  have c4 := x.c4
  have c5 := x.c5
  have c6 := x.c6
  have c7 := x.c7
  have c8 := x.c8
  have c9 := x.c9
  have c10 := x.c10
  have c11 := x.c11
  have c12 := x.c12
  have y := HF'.out.y
  have y0 := y.c0
  have y1 := y.c1
  have y2 := y.c2
  have yf := y.f
  have z := HF'.out.z
  have r0 := z.c0
  have r1 := z.c1
  have r2 := z.c2
  have r3 := z.c3
  have r4 := z.c4
  have r5 := z.c5
  have r6 := z.c6
  have r7 := z.c7
  have r8 := z.c8
  have r9 := z.c9
  have r10 := z.c10
  have r11 := z.c11
  have r12 := z.c12
  have zf := z.f
  have FIN := HF'.out.fin
  generalize w2.heap.size = NN at *
  clear m x y z
  go_region
  go_wp2
  change bodyPost _ _ _ _ _ (setT (setM v1 (w.heap.size + 1 + 1) (.int .i64 size) (.slice a2 ((sto zs t.rc t.wo).length) q2) (.int .i64 s4)) (w.heap.size + 1 + 1 + 1) T4 (.slice ao n cap)).drew
  generalize setT (setM v1 (w.heap.size + 1 + 1) (.int .i64 size) (.slice a2 ((sto zs t.rc t.wo).length) q2) (.int .i64 s4)) (w.heap.size + 1 + 1 + 1) T4 (.slice ao n cap) = wf at *
  obtain ⟨fm, fx, o', l', b'⟩ := FIN
  have gm : Boxed wf.drew (w.heap.size + 1 + 1) (.int .i64 size) (.slice a2 ((sto zs t.rc t.wo).length) q2) (.int .i64 s4) := fm
  have gx := fx.drew
  refine bodyPost_ret (v := .tuple #[.agg #[.int .i64 size, .slice a2 ((sto zs t.rc t.wo).length) q2, .int .i64 s4], thV T4 (.slice ao n cap)]) (by simp [results, Try.results46, go_sem, thV, gm.c0, gm.c1, gm.c2, gx.c0, gx.c1, gx.c2, gx.c3, gx.c4, gx.c5, gx.c6, gx.c7, gx.c8, gx.c9, gx.c10, gx.c11, gx.c12]) rfl ?_
  exact ⟨_, by rw [HT4.out, HS4.out], by rw [HZ4.out]; exact ⟨own_at o' (fun _ _ _ => rfl), l', b'.drew⟩⟩

set_option maxRecDepth 100000 in
set_option maxHeartbeats 16000000 in
theorem pub5 (h : w.ownsRow B 2 1 u zs.length (zs.map (Value.int .i64))) (hB : B ≤ w.heap.size) (hl : zs.length ≤ 1000) (ao : Option Addr) (n cap : Nat) (hp : t.pc = 5) (k0 : 0 ≤ st) (k1 : st < 1000000) :
    Calls Try.prog 46 #[.agg #[.int .i64 size, u, .int .i64 st], thV t (.slice ao n cap)] w (RPost w B u size t (.slice ao n cap) zs st) := by
  obtain ⟨au, cu, rfl⟩ := ownShape h
  rw [show thV t (.slice ao n cap) = .agg #[.int .i64 t.ti, .int .i64 t.pc, .int .i64 t.rc, .int .i64 t.sq, .int .i64 t.wo, .int .i64 t.lk, .int .i64 t.cu, .int .i64 t.pv, .int .i64 t.nt, .int .i64 t.mx, .int .i64 t.ps, .int .i64 t.rn, .slice ao n cap] from rfl]
  have HL := Lib.hid hl
  have HBB := Lib.hid hB
  have HS := Lib.hid (stp5 size t zs hp)
  obtain ⟨W, hW⟩ : ∃ W, (((w.alloc (.cells #[.int .i64 size, .slice au zs.length cu, .int .i64 st] 37)).alloc (.cells #[.int .i64 t.ti, .int .i64 t.pc, .int .i64 t.rc, .int .i64 t.sq, .int .i64 t.wo, .int .i64 t.lk, .int .i64 t.cu, .int .i64 t.pv, .int .i64 t.nt, .int .i64 t.mx, .int .i64 t.ps, .int .i64 t.rn, .slice ao n cap] 25)).alloc (.cells #[.int .i64 0, .slice none 0 0, .int .i64 0] 37)).alloc (.cells #[.int .i64 0, .int .i64 0, .int .i64 0, .int .i64 0, .int .i64 0, .int .i64 0, .int .i64 0, .int .i64 0, .int .i64 0, .int .i64 0, .int .i64 0, .int .i64 0, .slice none 0 0] 25) = W := ⟨_, rfl⟩
  have HP := Lib.hid (PB.new h t (.slice ao n cap) W hW)
  have HW := Lib.hid hW
  have HPC := Lib.hid hp
  clear hW h hl hB hp
  go_enter Try.func46, Try.ntmps46
  go_upto_region 1 with (fail)
  rw [HW.out]
  clear HW
  have x1 := HP.out.x.c1
  rw [HPC.out] at x1
  go_upto_region 21 with (fail)
  have m0 := HP.out.m.c0
  have m1 := HP.out.m.c1
  have m2 := HP.out.m.c2
  have x2 := HP.out.x.c2
  have C := Lib.hid (refLoadD (size := size) HP.out.o (Nat.le_trans HBB.out HP.out.b.size) (wrap64 (t.rc + 1)) k0 k1)
  go_wp2_with fail
  with_reducible refine C.out.mono ?_
  clear C m0 m1 m2 x2
  rintro e w2 ⟨u', rfl, l2⟩
  obtain ⟨a2, q2, rfl⟩ := ownShape l2.1
  go_upto_region 22 with (fail)
  generalize hW3 : w2.alloc (.cells #[.int .i64 size, .slice a2 zs.length q2, .int .i64 (st + cn zs (wrap64 (t.rc + 1)))] 37) = w3
  have HF := Lib.hid (HP.out.call l2 hW3)
  clear hW3 l2 x1
  have y5 := HF.out.x.c5
  have yf5 := HF.out.x.f
  go_upto_region 23 with (fail)
  have HF' := Lib.hid (HF.out.set (HF.out.x.s5 (ld zs (wrap64 (t.rc + 1)))))
  clear HF y5 yf5
  generalize hV1 : w3.setCell ⟨w.heap.size + 1, 5, none⟩ (.int .i64 (ld zs (wrap64 (t.rc + 1)))) = v1
  rw [hV1] at HF'
  have HF := HF'
  clear HF' hV1
  have C := Lib.hid (firstA (ld zs (wrap64 (t.rc + 1)) == 0) 6 11 v1)
  have y1 := HF.out.x.c1
  have yf1 := HF.out.x.f
  go_wp2_with fail
  with_reducible refine C.out.mono ?_
  clear C
  rintro e w' ⟨rfl, rfl⟩
  go_upto_region 24 with (fail)
  have HF' := Lib.hid (HF.out.set (HF.out.x.s1 (fk (ld zs (wrap64 (t.rc + 1)) == 0) 6 11)))
  clear HF y1 yf1
  generalize hV2 : v1.setCell ⟨w.heap.size + 1, 1, none⟩ (.int .i64 (fk (ld zs (wrap64 (t.rc + 1)) == 0) 6 11)) = v2
  rw [hV2] at HF'
  have HF := HF'
  clear HF' hV2
  obtain ⟨T4, hT4⟩ : ∃ T4 : Th, ({ t with lk := ld zs (wrap64 (t.rc + 1)), pc := fk (ld zs (wrap64 (t.rc + 1)) == 0) 6 11 } : Th) = T4 := ⟨_, rfl⟩
  obtain ⟨s4, hs4⟩ : ∃ s4 : Int, st + cn zs (wrap64 (t.rc + 1)) = s4 := ⟨_, rfl⟩
  have HFF := HF.out
  rw [hT4] at HFF
  rw [hs4] at HFF ⊢
  have HF' := Lib.hid HFF
  have HT4 := Lib.hid (show (stp size t zs).t = T4 from (congrArg Sp.t HS.out).trans hT4)
  have HS4 := Lib.hid (show st + (stp size t zs).c = s4 from (congrArg (fun x => st + Sp.c x) HS.out).trans hs4)
  have HZ4 := Lib.hid (show (stp size t zs).zs = _ from congrArg Sp.zs HS.out)
  clear HF hT4 hs4 HFF
  have m := HF'.out.m
  have m0 := m.c0
  have m1 := m.c1
  have m2 := m.c2
  have x := HF'.out.x
  have c0 := x.c0
  have c1 := x.c1
  have c2 := x.c2
  have c3 := x.c3
  have c4 := x.c4
  have c5 := x.c5
  have c6 := x.c6
  have c7 := x.c7
  have c8 := x.c8
  have c9 := x.c9
  have c10 := x.c10
  have c11 := x.c11
  have c12 := x.c12
  have y := HF'.out.y
  have y0 := y.c0
  have y1 := y.c1
  have y2 := y.c2
  have yf := y.f
  have z := HF'.out.z
  have r0 := z.c0
  have r1 := z.c1
  have r2 := z.c2
  have r3 := z.c3
  have r4 := z.c4
  have r5 := z.c5
  have r6 := z.c6
  have r7 := z.c7
  have r8 := z.c8
  have r9 := z.c9
  have r10 := z.c10
  have r11 := z.c11
  have r12 := z.c12
  have zf := z.f
  have FIN := HF'.out.fin
  generalize w2.heap.size = NN at *
  clear m x y z
  go_region
  go_wp2
  change bodyPost _ _ _ _ _ (setT (setM v2 (w.heap.size + 1 + 1) (.int .i64 size) (.slice a2 (zs.length) q2) (.int .i64 s4)) (w.heap.size + 1 + 1 + 1) T4 (.slice ao n cap)).drew
  generalize setT (setM v2 (w.heap.size + 1 + 1) (.int .i64 size) (.slice a2 (zs.length) q2) (.int .i64 s4)) (w.heap.size + 1 + 1 + 1) T4 (.slice ao n cap) = wf at *
  obtain ⟨fm, fx, o', l', b'⟩ := FIN
  have gm : Boxed wf.drew (w.heap.size + 1 + 1) (.int .i64 size) (.slice a2 (zs.length) q2) (.int .i64 s4) := fm
  have gx := fx.drew
  refine bodyPost_ret (v := .tuple #[.agg #[.int .i64 size, .slice a2 (zs.length) q2, .int .i64 s4], thV T4 (.slice ao n cap)]) (by simp [results, Try.results46, go_sem, thV, gm.c0, gm.c1, gm.c2, gx.c0, gx.c1, gx.c2, gx.c3, gx.c4, gx.c5, gx.c6, gx.c7, gx.c8, gx.c9, gx.c10, gx.c11, gx.c12]) rfl ?_
  exact ⟨_, by rw [HT4.out, HS4.out], by rw [HZ4.out]; exact ⟨own_at o' (fun _ _ _ => rfl), l', b'.drew⟩⟩
end

end Go.Proofs.Ythefdglocnalhaa.M2
