/-
  Step of reaperref15 at the places that publish and link stand for, and where nothing is done. Conditions: a document's memory of at most 1000 cells; steps below a million.
-/
import Derived.Test.YthefdglocnalhaaRefS15m
namespace Go.Proofs.Ythefdglocnalhaa.M2
open Go.RowKit

section
variable {w : World} {B : Nat} {u : Value} {size : Int} {zs : List Int} {st : Int} {t : Th}

theorem pubAny (h : w.ownsRow B 2 1 u zs.length (zs.map (Value.int .i64))) (hB : B ≤ w.heap.size) (hz : 0 ≤ size ∧ size ≤ 1000 ∧ (zs.length : Int) ≤ size) (ao : Option Addr) (n cap : Nat) (hp : 1 ≤ t.pc ∧ t.pc ≤ 5) (k0 : 0 ≤ st) (k1 : st < 1000000) :
    Calls Try.prog 46 #[.agg #[.int .i64 size, u, .int .i64 st], thV t (.slice ao n cap)] w (RPost w B u size t (.slice ao n cap) zs st) := by
  have hl : zs.length ≤ 1000 := by omega
  rcases (show t.pc = 1 ∨ t.pc = 2 ∨ t.pc = 3 ∨ t.pc = 4 ∨ t.pc = 5 by omega) with e | e | e | e | e
  · cases hr : rm size zs
    · exact pub1n h hB hl hz hr ao n cap e k0 k1
    · exact pub1y h hB hl hz hr ao n cap e k0 k1
  · exact pub2 h hB hl ao n cap e k0 k1
  · exact pub3 h hB hl ao n cap e k0 k1
  · exact pub4 h hB hl ao n cap e k0 k1
  · exact pub5 h hB hl ao n cap e k0 k1
theorem lnkAny (h : w.ownsRow B 2 1 u zs.length (zs.map (Value.int .i64))) (hB : B ≤ w.heap.size) (hz : 0 ≤ size ∧ size ≤ 1000 ∧ (zs.length : Int) ≤ size) (ao : Option Addr) (n cap : Nat) (hp : 6 ≤ t.pc ∧ t.pc ≤ 10) (k0 : 0 ≤ st) (k1 : st < 1000000) :
    Calls Try.prog 47 #[.agg #[.int .i64 size, u, .int .i64 st], thV t (.slice ao n cap)] w (RPost w B u size t (.slice ao n cap) zs st) := by
  have hl : zs.length ≤ 1000 := by omega
  rcases (show t.pc = 6 ∨ t.pc = 7 ∨ t.pc = 8 ∨ t.pc = 9 ∨ t.pc = 10 by omega) with e | e | e | e | e
  · exact lnk6 h hB hl ao n cap e k0 k1
  · exact lnk7 h hB hl ao n cap e k0 k1
  · exact lnk8 h hB hl ao n cap e k0 k1
  · exact lnk9 h hB hl ao n cap e k0 k1
  · exact lnk10 h hB hl ao n cap e k0 k1

theorem stpQuiet (size : Int) (t : Th) (zs : List Int) (hp : t.pc ≤ 10) : (stp size t zs).k = 0 ∧ (stp size t zs).v = 0 ∧ (stp size t zs).d = false := by
  rcases (show t.pc < 1 ∨ t.pc = 1 ∨ t.pc = 2 ∨ t.pc = 3 ∨ t.pc = 4 ∨ t.pc = 5 ∨ t.pc = 6 ∨ t.pc = 7 ∨ t.pc = 8 ∨ t.pc = 9 ∨ t.pc = 10 by omega) with e | e | e | e | e | e | e | e | e | e | e
  · rw [stp0 size t zs (.inl e)]; exact ⟨rfl, rfl, rfl⟩
  · rw [stp1 size t zs e]; exact ⟨rfl, rfl, rfl⟩
  · rw [stp2 size t zs e]; exact ⟨rfl, rfl, rfl⟩
  · rw [stp3 size t zs e]; exact ⟨rfl, rfl, rfl⟩
  · rw [stp4 size t zs e]; exact ⟨rfl, rfl, rfl⟩
  · rw [stp5 size t zs e]; exact ⟨rfl, rfl, rfl⟩
  · rw [stp6 size t zs e]; exact ⟨rfl, rfl, rfl⟩
  · rw [stp7 size t zs e]; exact ⟨rfl, rfl, rfl⟩
  · rw [stp8 size t zs e]; exact ⟨rfl, rfl, rfl⟩
  · rw [stp9 size t zs e]; exact ⟨rfl, rfl, rfl⟩
  · rw [stp10 size t zs e]; exact ⟨rfl, rfl, rfl⟩

theorem PF.ofQB {W : World} {b : Value} (h : QB w B u size zs st t b W) : PF w B w.heap.size (w.heap.size + 1) (w.heap.size + 1 + 1) (w.heap.size + 1 + 1 + 1) u size u zs st t b W :=
  ⟨h.o, Later.refl _ _, h.m, h.x, h.y, h.z, h.b, by omega, by omega, by omega, by omega, by omega⟩
theorem PF.ofCall {W w2 w3 : World} {b u' : Value} {zs' : List Int} {st' : Int} {T : Th} (h : QB w B u size zs st t b W) (l : Left W B u zs' u' w2) (e : (w2.alloc (.cells #[.int .i64 size, u', .int .i64 st'] 37)).alloc (.cells #[.int .i64 T.ti, .int .i64 T.pc, .int .i64 T.rc, .int .i64 T.sq, .int .i64 T.wo, .int .i64 T.lk, .int .i64 T.cu, .int .i64 T.pv, .int .i64 T.nt, .int .i64 T.mx, .int .i64 T.ps, .int .i64 T.rn, b] 25) = w3) :
    PF w B w2.heap.size (w2.heap.size + 1) (w.heap.size + 1 + 1) (w.heap.size + 1 + 1 + 1) u size u' zs' st' T b w3 ∧ RB w3 (w.heap.size + 1 + 1 + 1 + 1) 0 0 := by
  subst e
  obtain ⟨o, lt, bl⟩ := l
  have hs := bl.size
  have hw := h.s
  have hb := (bl.alloc bl.size (.cells #[.int .i64 size, u', .int .i64 st'] 37)).alloc (by simp; omega) (.cells #[.int .i64 T.ti, .int .i64 T.pc, .int .i64 T.rc, .int .i64 T.sq, .int .i64 T.wo, .int .i64 T.lk, .int .i64 T.cu, .int .i64 T.pv, .int .i64 T.nt, .int .i64 T.mx, .int .i64 T.ps, .int .i64 T.rn, b] 25)
  refine ⟨⟨(o.alloc _).alloc _, fun g hg => (lt g hg).imp id (fun h1 => by omega), (Boxed.new _ _ _ _).alloc _, ?_, h.y.keep hb, h.z.keep hb, h.b.trans (hb.mono h.b.size), by omega, by omega, by omega, by omega, by omega⟩, h.r.keep hb⟩
  have := TX.new (w2.alloc (.cells #[.int .i64 size, u', .int .i64 st'] 37)) T b
  simpa using this

set_option maxRecDepth 100000 in
set_option maxHeartbeats 16000000 in
theorem rstP (h : w.ownsRow B 2 1 u zs.length (zs.map (Value.int .i64))) (hB : B ≤ w.heap.size) (hz : 0 ≤ size ∧ size ≤ 1000 ∧ (zs.length : Int) ≤ size) (ao : Option Addr) (n cap : Nat) (hp : 1 ≤ t.pc ∧ t.pc ≤ 5) (k0 : 0 ≤ st) (k1 : st < 1000000) :
    Calls Try.prog 22 #[.agg #[.int .i64 size, u, .int .i64 st], thV t (.slice ao n cap)] w (SPost w B u size t (.slice ao n cap) zs st) := by
  obtain ⟨au, cu, rfl⟩ := ownShape h
  have HTV := Lib.hid (show thV t (.slice ao n cap) = .agg #[.int .i64 t.ti, .int .i64 t.pc, .int .i64 t.rc, .int .i64 t.sq, .int .i64 t.wo, .int .i64 t.lk, .int .i64 t.cu, .int .i64 t.pv, .int .i64 t.nt, .int .i64 t.mx, .int .i64 t.ps, .int .i64 t.rn, .slice ao n cap] from rfl)
  rw [HTV.out]
  have HBB := Lib.hid hB
  have HZ := Lib.hid hz
  obtain ⟨W, hW⟩ : ∃ W, ((((w.alloc (.cells #[.int .i64 size, .slice au zs.length cu, .int .i64 st] 37)).alloc (.cells #[.int .i64 t.ti, .int .i64 t.pc, .int .i64 t.rc, .int .i64 t.sq, .int .i64 t.wo, .int .i64 t.lk, .int .i64 t.cu, .int .i64 t.pv, .int .i64 t.nt, .int .i64 t.mx, .int .i64 t.ps, .int .i64 t.rn, .slice ao n cap] 25)).alloc (.cells #[.int .i64 0, .slice none 0 0, .int .i64 0] 37)).alloc (.cells #[.int .i64 0, .int .i64 0, .int .i64 0, .int .i64 0, .int .i64 0, .int .i64 0, .int .i64 0, .int .i64 0, .int .i64 0, .int .i64 0, .int .i64 0, .int .i64 0, .slice none 0 0] 25)).alloc (.cells #[.int .u8 0, .int .i32 0] 49) = W := ⟨_, rfl⟩
  have HP := Lib.hid (QB.new h t (.slice ao n cap) W hW)
  have HW := Lib.hid hW
  have HPC := Lib.hid hp
  clear hW h hB hz hp
  go_enter Try.func22, Try.ntmps22
  go_upto_region 1 with (fail)
  rw [HW.out]
  clear HW
  obtain ⟨pc, hpc⟩ : ∃ pc, t.pc = pc := ⟨_, rfl⟩
  have HPX := Lib.hid hpc
  have x1 := HP.out.x.c1
  rw [hpc] at x1
  have hq := HPC.out
  rw [hpc] at hq
  clear hpc
  have q1 : ¬ pc < 1 := by omega
  have q2 : ¬ 16 < pc := by omega
  have q3 : pc ≤ 5 := by omega
  go_upto_region 4 with (fail)
  clear x1 hq
  rw [← HPX.out]
  have C := pubAny HP.out.o (Nat.le_trans HBB.out HP.out.b.size) HZ.out ao n cap HPC.out k0 k1
  have HKQ := stpQuiet size t zs (by have := HPC.out; omega)
  obtain ⟨S, hS⟩ : ∃ S, stp size t zs = S := ⟨_, rfl⟩
  have HS := Lib.hid hS
  unfold RPost at C
  rw [HTV.out, hS] at C
  rw [hS] at HKQ
  have HKS := Lib.hid HKQ
  have HC := Lib.hid C
  have m := HP.out.m
  have m0 := m.c0
  have m1 := m.c1
  have m2 := m.c2
  have x := HP.out.x
  have c0 := x.c0
  have c1 := x.c1
  have c2 := x.c2
  have c3 := x.c3
  have c4 := x.c4
  have c5 := x.c5
  have c6 := x.c6
  have c7 := x.c7
  have c8 := x.c8
  have c9 := x.c9
  have c10 := x.c10
  have c11 := x.c11
  have c12 := x.c12
  clear C hS HKQ m x
  go_wp2_with fail
  with_reducible refine HC.out.mono ?_
  clear HC m0 m1 m2 c0 c1 c2 c3 c4 c5 c6 c7 c8 c9 c10 c11 c12
  rintro e w2 ⟨u', rfl, l2⟩
  obtain ⟨a2, q2, rfl⟩ := ownShape l2.1
  rw [show thV S.t (.slice ao n cap) = .agg #[.int .i64 S.t.ti, .int .i64 S.t.pc, .int .i64 S.t.rc, .int .i64 S.t.sq, .int .i64 S.t.wo, .int .i64 S.t.lk, .int .i64 S.t.cu, .int .i64 S.t.pv, .int .i64 S.t.nt, .int .i64 S.t.mx, .int .i64 S.t.ps, .int .i64 S.t.rn, .slice ao n cap] from rfl]
  go_upto_region 5 with (fail)
  generalize hW3 : (w2.alloc (.cells #[.int .i64 size, .slice a2 S.zs.length q2, .int .i64 (st + S.c)] 37)).alloc (.cells #[.int .i64 S.t.ti, .int .i64 S.t.pc, .int .i64 S.t.rc, .int .i64 S.t.sq, .int .i64 S.t.wo, .int .i64 S.t.lk, .int .i64 S.t.cu, .int .i64 S.t.pv, .int .i64 S.t.nt, .int .i64 S.t.mx, .int .i64 S.t.ps, .int .i64 S.t.rn, .slice ao n cap] 25) = w3
  have HFR := PF.ofCall (T := S.t) HP.out l2 hW3
  have HF := Lib.hid HFR.1
  have HRR := Lib.hid HFR.2
  have HSZ := Lib.hid (show w.heap.size + 5 ≤ w2.heap.size by have := l2.2.2.size; have := HP.out.s; omega)
  have nn2 : ¬ w2.heap.size = w.heap.size + 1 + 1 := by have := HSZ.out; omega
  have nn3 : ¬ w2.heap.size = w.heap.size + 1 + 1 + 1 := by have := HSZ.out; omega
  have nn4 : ¬ w2.heap.size = w.heap.size + 1 + 1 + 1 + 1 := by have := HSZ.out; omega
  have mm2 : ¬ w2.heap.size + 1 = w.heap.size + 1 + 1 := by have := HSZ.out; omega
  have mm3 : ¬ w2.heap.size + 1 = w.heap.size + 1 + 1 + 1 := by have := HSZ.out; omega
  have mm4 : ¬ w2.heap.size + 1 = w.heap.size + 1 + 1 + 1 + 1 := by have := HSZ.out; omega
  clear hW3 l2 HFR
  obtain ⟨T4, hT4⟩ : ∃ T4 : Th, S.t = T4 := ⟨_, rfl⟩
  obtain ⟨s4, hs4⟩ : ∃ s4 : Int, st + S.c = s4 := ⟨_, rfl⟩
  have HFF := HF.out
  rw [hT4] at HFF
  rw [hs4] at HFF ⊢
  have HF' := Lib.hid HFF
  have HT4 := Lib.hid (show (stp size t zs).t = T4 from (congrArg Sp.t HS.out).trans hT4)
  have HS4 := Lib.hid (show st + (stp size t zs).c = s4 from (congrArg (fun x => st + Sp.c x) HS.out).trans hs4)
  have HK4 := Lib.hid (show (stp size t zs).k = 0 ∧ (stp size t zs).v = 0 ∧ (stp size t zs).d = false from ⟨(congrArg Sp.k HS.out).trans HKS.out.1, (congrArg Sp.v HS.out).trans HKS.out.2.1, (congrArg Sp.d HS.out).trans HKS.out.2.2⟩)
  have HZ4 := Lib.hid (show (stp size t zs).zs = _ from congrArg Sp.zs HS.out)
  clear HF hT4 hs4 HFF
  have m := HF'.out.m
  have m0 := m.c0
  have m1 := m.c1
  have m2 := m.c2
  have x := HF'.out.x
  have c0 := x.c0
  have c1 := x.c1
  have c2 := x.c2
  have c3 := x.c3
  have c4 := x.c4
  have c5 := x.c5
  have c6 := x.c6
  have c7 := x.c7
  have c8 := x.c8
  have c9 := x.c9
  have c10 := x.c10
  have c11 := x.c11
  have c12 := x.c12
  have y := HF'.out.y
  have y0 := y.c0
  have y1 := y.c1
  have y2 := y.c2
  have yf := y.f
  have z := HF'.out.z
  have r0 := z.c0
  have r1 := z.c1
  have r2 := z.c2
  have r3 := z.c3
  have r4 := z.c4
  have r5 := z.c5
  have r6 := z.c6
  have r7 := z.c7
  have r8 := z.c8
  have r9 := z.c9
  have r10 := z.c10
  have r11 := z.c11
  have r12 := z.c12
  have zf := z.f
  have q0 := HRR.out.c0
  have q1 := HRR.out.c1
  have qf := HRR.out.f
  have FIN := HF'.out.fin3 HRR.out (by omega) (by omega) (by omega) (0) (0)
  generalize w2.heap.size = NN at *
  clear m x y z
  go_region
  go_wp2
  change bodyPost _ _ _ _ _ (((setT (setM w3 (w.heap.size + 1 + 1) (.int .i64 size) (.slice a2 (S.zs.length) q2) (.int .i64 s4)) (w.heap.size + 1 + 1 + 1) T4 (.slice ao n cap)).setCell ⟨w.heap.size + 1 + 1 + 1 + 1, 0, none⟩ (.int .u8 (0))).setCell ⟨w.heap.size + 1 + 1 + 1 + 1, 1, none⟩ (.int .i32 (0))).drew
  generalize (((setT (setM w3 (w.heap.size + 1 + 1) (.int .i64 size) (.slice a2 (S.zs.length) q2) (.int .i64 s4)) (w.heap.size + 1 + 1 + 1) T4 (.slice ao n cap)).setCell ⟨w.heap.size + 1 + 1 + 1 + 1, 0, none⟩ (.int .u8 (0))).setCell ⟨w.heap.size + 1 + 1 + 1 + 1, 1, none⟩ (.int .i32 (0))) = wf at *
  obtain ⟨fm, fx, fr, o', l', b'⟩ := FIN
  have gm : Boxed wf.drew (w.heap.size + 1 + 1) (.int .i64 size) (.slice a2 (S.zs.length) q2) (.int .i64 s4) := fm
  have gx := fx.drew
  have gr : RB wf.drew (w.heap.size + 1 + 1 + 1 + 1) (0) (0) := fr
  refine bodyPost_ret (v := .tuple #[.agg #[.int .i64 size, .slice a2 (S.zs.length) q2, .int .i64 s4], thV T4 (.slice ao n cap), .agg #[.int .u8 (0), .int .i32 (0)], .bool false]) (by simp [results, Try.results22, go_sem, thV, gm.c0, gm.c1, gm.c2, gr.c0, gr.c1, gx.c0, gx.c1, gx.c2, gx.c3, gx.c4, gx.c5, gx.c6, gx.c7, gx.c8, gx.c9, gx.c10, gx.c11, gx.c12]) rfl ?_
  exact ⟨_, by rw [HT4.out, HS4.out, HK4.out.1, HK4.out.2.1, HK4.out.2.2], by rw [HZ4.out]; exact ⟨own_at o' (fun _ _ _ => rfl), l', b'.drew⟩⟩

set_option maxRecDepth 100000 in
set_option maxHeartbeats 16000000 in
theorem rstL (h : w.ownsRow B 2 1 u zs.length (zs.map (Value.int .i64))) (hB : B ≤ w.heap.size) (hz : 0 ≤ size ∧ size ≤ 1000 ∧ (zs.length : Int) ≤ size) (ao : Option Addr) (n cap : Nat) (hp : 6 ≤ t.pc ∧ t.pc ≤ 10) (k0 : 0 ≤ st) (k1 : st < 1000000) :
    Calls Try.prog 22 #[.agg #[.int .i64 size, u, .int .i64 st], thV t (.slice ao n cap)] w (SPost w B u size t (.slice ao n cap) zs st) := by
  obtain ⟨au, cu, rfl⟩ := ownShape h
  have HTV := Lib.hid (show thV t (.slice ao n cap) = .agg #[.int .i64 t.ti, .int .i64 t.pc, .int .i64 t.rc, .int .i64 t.sq, .int .i64 t.wo, .int .i64 t.lk, .int .i64 t.cu, .int .i64 t.pv, .int .i64 t.nt, .int .i64 t.mx, .int .i64 t.ps, .int .i64 t.rn, .slice ao n cap] from rfl)
  rw [HTV.out]
  have HBB := Lib.hid hB
  have HZ := Lib.hid hz
  obtain ⟨W, hW⟩ : ∃ W, ((((w.alloc (.cells #[.int .i64 size, .slice au zs.length cu, .int .i64 st] 37)).alloc (.cells #[.int .i64 t.ti, .int .i64 t.pc, .int .i64 t.rc, .int .i64 t.sq, .int .i64 t.wo, .int .i64 t.lk, .int .i64 t.cu, .int .i64 t.pv, .int .i64 t.nt, .int .i64 t.mx, .int .i64 t.ps, .int .i64 t.rn, .slice ao n cap] 25)).alloc (.cells #[.int .i64 0, .slice none 0 0, .int .i64 0] 37)).alloc (.cells #[.int .i64 0, .int .i64 0, .int .i64 0, .int .i64 0, .int .i64 0, .int .i64 0, .int .i64 0, .int .i64 0, .int .i64 0, .int .i64 0, .int .i64 0, .int .i64 0, .slice none 0 0] 25)).alloc (.cells #[.int .u8 0, .int .i32 0] 49) = W := ⟨_, rfl⟩
  have HP := Lib.hid (QB.new h t (.slice ao n cap) W hW)
  have HW := Lib.hid hW
  have HPC := Lib.hid hp
  clear hW h hB hz hp
  go_enter Try.func22, Try.ntmps22
  go_upto_region 1 with (fail)
  rw [HW.out]
  clear HW
  obtain ⟨pc, hpc⟩ : ∃ pc, t.pc = pc := ⟨_, rfl⟩
  have HPX := Lib.hid hpc
  have x1 := HP.out.x.c1
  rw [hpc] at x1
  have hq := HPC.out
  rw [hpc] at hq
  clear hpc
  have q1 : ¬ pc < 1 := by omega
  have q2 : ¬ 16 < pc := by omega
  have q3 : ¬ pc ≤ 5 := by omega
  have q4 : pc ≤ 10 := by omega
  go_upto_region 7 with (fail)
  clear x1 hq
  rw [← HPX.out]
  have C := lnkAny HP.out.o (Nat.le_trans HBB.out HP.out.b.size) HZ.out ao n cap HPC.out k0 k1
  have HKQ := stpQuiet size t zs (by have := HPC.out; omega)
  obtain ⟨S, hS⟩ : ∃ S, stp size t zs = S := ⟨_, rfl⟩
  have HS := Lib.hid hS
  unfold RPost at C
  rw [HTV.out, hS] at C
  rw [hS] at HKQ
  have HKS := Lib.hid HKQ
  have HC := Lib.hid C
  have m := HP.out.m
  have m0 := m.c0
  have m1 := m.c1
  have m2 := m.c2
  have x := HP.out.x
  have c0 := x.c0
  have c1 := x.c1
  have c2 := x.c2
  have c3 := x.c3
  have c4 := x.c4
  have c5 := x.c5
  have c6 := x.c6
  have c7 := x.c7
  have c8 := x.c8
  have c9 := x.c9
  have c10 := x.c10
  have c11 := x.c11
  have c12 := x.c12
  clear C hS HKQ m x
  go_wp2_with fail
  with_reducible refine HC.out.mono ?_
  clear HC m0 m1 m2 c0 c1 c2 c3 c4 c5 c6 c7 c8 c9 c10 c11 c12
  rintro e w2 ⟨u', rfl, l2⟩
  obtain ⟨a2, q2, rfl⟩ := ownShape l2.1
  rw [show thV S.t (.slice ao n cap) = .agg #[.int .i64 S.t.ti, .int .i64 S.t.pc, .int .i64 S.t.rc, .int .i64 S.t.sq, .int .i64 S.t.wo, .int .i64 S.t.lk, .int .i64 S.t.cu, .int .i64 S.t.pv, .int .i64 S.t.nt, .int .i64 S.t.mx, .int .i64 S.t.ps, .int .i64 S.t.rn, .slice ao n cap] from rfl]
  go_upto_region 8 with (fail)
  generalize hW3 : (w2.alloc (.cells #[.int .i64 size, .slice a2 S.zs.length q2, .int .i64 (st + S.c)] 37)).alloc (.cells #[.int .i64 S.t.ti, .int .i64 S.t.pc, .int .i64 S.t.rc, .int .i64 S.t.sq, .int .i64 S.t.wo, .int .i64 S.t.lk, .int .i64 S.t.cu, .int .i64 S.t.pv, .int .i64 S.t.nt, .int .i64 S.t.mx, .int .i64 S.t.ps, .int .i64 S.t.rn, .slice ao n cap] 25) = w3
  have HFR := PF.ofCall (T := S.t) HP.out l2 hW3
  have HF := Lib.hid HFR.1
  have HRR := Lib.hid HFR.2
  have HSZ := Lib.hid (show w.heap.size + 5 ≤ w2.heap.size by have := l2.2.2.size; have := HP.out.s; omega)
  have nn2 : ¬ w2.heap.size = w.heap.size + 1 + 1 := by have := HSZ.out; omega
  have nn3 : ¬ w2.heap.size = w.heap.size + 1 + 1 + 1 := by have := HSZ.out; omega
  have nn4 : ¬ w2.heap.size = w.heap.size + 1 + 1 + 1 + 1 := by have := HSZ.out; omega
  have mm2 : ¬ w2.heap.size + 1 = w.heap.size + 1 + 1 := by have := HSZ.out; omega
  have mm3 : ¬ w2.heap.size + 1 = w.heap.size + 1 + 1 + 1 := by have := HSZ.out; omega
  have mm4 : ¬ w2.heap.size + 1 = w.heap.size + 1 + 1 + 1 + 1 := by have := HSZ.out; omega
  clear hW3 l2 HFR
  obtain ⟨T4, hT4⟩ : ∃ T4 : Th, S.t = T4 := ⟨_, rfl⟩
  obtain ⟨s4, hs4⟩ : ∃ s4 : Int, st + S.c = s4 := ⟨_, rfl⟩
  have HFF := HF.out
  rw [hT4] at HFF
  rw [hs4] at HFF ⊢
  have HF' := Lib.hid HFF
  have HT4 := Lib.hid (show (stp size t zs).t = T4 from (congrArg Sp.t HS.out).trans hT4)
  have HS4 := Lib.hid (show st + (stp size t zs).c = s4 from (congrArg (fun x => st + Sp.c x) HS.out).trans hs4)
  have HK4 := Lib.hid (show (stp size t zs).k = 0 ∧ (stp size t zs).v = 0 ∧ (stp size t zs).d = false from ⟨(congrArg Sp.k HS.out).trans HKS.out.1, (congrArg Sp.v HS.out).trans HKS.out.2.1, (congrArg Sp.d HS.out).trans HKS.out.2.2⟩)
  have HZ4 := Lib.hid (show (stp size t zs).zs = _ from congrArg Sp.zs HS.out)
  clear HF hT4 hs4 HFF
  have m := HF'.out.m
  have m0 := m.c0
  have m1 := m.c1
  have m2 := m.c2
  have x := HF'.out.x
  have c0 := x.c0
  have c1 := x.c1
  have c2 := x.c2
  have c3 := x.c3
  have c4 := x.c4
  have c5 := x.c5
  have c6 := x.c6
  have c7 := x.c7
  have c8 := x.c8
  have c9 := x.c9
  have c10 := x.c10
  have c11 := x.c11
  have c12 := x.c12
  have y := HF'.out.y
  have y0 := y.c0
  have y1 := y.c1
  have y2 := y.c2
  have yf := y.f
  have z := HF'.out.z
  have r0 := z.c0
  have r1 := z.c1
  have r2 := z.c2
  have r3 := z.c3
  have r4 := z.c4
  have r5 := z.c5
  have r6 := z.c6
  have r7 := z.c7
  have r8 := z.c8
  have r9 := z.c9
  have r10 := z.c10
  have r11 := z.c11
  have r12 := z.c12
  have zf := z.f
  have q0 := HRR.out.c0
  have q1 := HRR.out.c1
  have qf := HRR.out.f
  have FIN := HF'.out.fin3 HRR.out (by omega) (by omega) (by omega) (0) (0)
  generalize w2.heap.size = NN at *
  clear m x y z
  go_region
  go_wp2
  change bodyPost _ _ _ _ _ (((setT (setM w3 (w.heap.size + 1 + 1) (.int .i64 size) (.slice a2 (S.zs.length) q2) (.int .i64 s4)) (w.heap.size + 1 + 1 + 1) T4 (.slice ao n cap)).setCell ⟨w.heap.size + 1 + 1 + 1 + 1, 0, none⟩ (.int .u8 (0))).setCell ⟨w.heap.size + 1 + 1 + 1 + 1, 1, none⟩ (.int .i32 (0))).drew
  generalize (((setT (setM w3 (w.heap.size + 1 + 1) (.int .i64 size) (.slice a2 (S.zs.length) q2) (.int .i64 s4)) (w.heap.size + 1 + 1 + 1) T4 (.slice ao n cap)).setCell ⟨w.heap.size + 1 + 1 + 1 + 1, 0, none⟩ (.int .u8 (0))).setCell ⟨w.heap.size + 1 + 1 + 1 + 1, 1, none⟩ (.int .i32 (0))) = wf at *
  obtain ⟨fm, fx, fr, o', l', b'⟩ := FIN
  have gm : Boxed wf.drew (w.heap.size + 1 + 1) (.int .i64 size) (.slice a2 (S.zs.length) q2) (.int .i64 s4) := fm
  have gx := fx.drew
  have gr : RB wf.drew (w.heap.size + 1 + 1 + 1 + 1) (0) (0) := fr
  refine bodyPost_ret (v := .tuple #[.agg #[.int .i64 size, .slice a2 (S.zs.length) q2, .int .i64 s4], thV T4 (.slice ao n cap), .agg #[.int .u8 (0), .int .i32 (0)], .bool false]) (by simp [results, Try.results22, go_sem, thV, gm.c0, gm.c1, gm.c2, gr.c0, gr.c1, gx.c0, gx.c1, gx.c2, gx.c3, gx.c4, gx.c5, gx.c6, gx.c7, gx.c8, gx.c9, gx.c10, gx.c11, gx.c12]) rfl ?_
  exact ⟨_, by rw [HT4.out, HS4.out, HK4.out.1, HK4.out.2.1, HK4.out.2.2], by rw [HZ4.out]; exact ⟨own_at o' (fun _ _ _ => rfl), l', b'.drew⟩⟩

set_option maxRecDepth 100000 in
set_option maxHeartbeats 16000000 in
theorem rst0 (h : w.ownsRow B 2 1 u zs.length (zs.map (Value.int .i64))) (hB : B ≤ w.heap.size) (hz : 0 ≤ size ∧ size ≤ 1000 ∧ (zs.length : Int) ≤ size) (ao : Option Addr) (n cap : Nat) (hp : t.pc < 1) (k0 : 0 ≤ st) (k1 : st < 1000000) :
    Calls Try.prog 22 #[.agg #[.int .i64 size, u, .int .i64 st], thV t (.slice ao n cap)] w (SPost w B u size t (.slice ao n cap) zs st) := by
  obtain ⟨au, cu, rfl⟩ := ownShape h
  have HTV := Lib.hid (show thV t (.slice ao n cap) = .agg #[.int .i64 t.ti, .int .i64 t.pc, .int .i64 t.rc, .int .i64 t.sq, .int .i64 t.wo, .int .i64 t.lk, .int .i64 t.cu, .int .i64 t.pv, .int .i64 t.nt, .int .i64 t.mx, .int .i64 t.ps, .int .i64 t.rn, .slice ao n cap] from rfl)
  rw [HTV.out]
  have HBB := Lib.hid hB
  have HZ := Lib.hid hz
  obtain ⟨W, hW⟩ : ∃ W, ((((w.alloc (.cells #[.int .i64 size, .slice au zs.length cu, .int .i64 st] 37)).alloc (.cells #[.int .i64 t.ti, .int .i64 t.pc, .int .i64 t.rc, .int .i64 t.sq, .int .i64 t.wo, .int .i64 t.lk, .int .i64 t.cu, .int .i64 t.pv, .int .i64 t.nt, .int .i64 t.mx, .int .i64 t.ps, .int .i64 t.rn, .slice ao n cap] 25)).alloc (.cells #[.int .i64 0, .slice none 0 0, .int .i64 0] 37)).alloc (.cells #[.int .i64 0, .int .i64 0, .int .i64 0, .int .i64 0, .int .i64 0, .int .i64 0, .int .i64 0, .int .i64 0, .int .i64 0, .int .i64 0, .int .i64 0, .int .i64 0, .slice none 0 0] 25)).alloc (.cells #[.int .u8 0, .int .i32 0] 49) = W := ⟨_, rfl⟩
  have HP := Lib.hid (QB.new h t (.slice ao n cap) W hW)
  have HW := Lib.hid hW
  have HPC := Lib.hid hp
  clear hW h hB hz hp
  go_enter Try.func22, Try.ntmps22
  go_upto_region 1 with (fail)
  rw [HW.out]
  clear HW
  obtain ⟨pc, hpc⟩ : ∃ pc, t.pc = pc := ⟨_, rfl⟩
  have HPX := Lib.hid hpc
  have x1 := HP.out.x.c1
  rw [hpc] at x1
  have hq := HPC.out
  rw [hpc] at hq
  clear hpc
  have q1 : decide (pc < 1) = true := decide_eq_true hq
  go_upto_region 2 with (fail)
  clear x1 hq
  have HS := Lib.hid (stp0 size t zs (by have := HPC.out; omega))
  have HF := Lib.hid (PF.ofQB HP.out)
  have HRR := Lib.hid HP.out.r
  obtain ⟨w3, hw3⟩ : ∃ w3, w3 = W := ⟨_, rfl⟩
  rw [← hw3] at HF HRR ⊢
  clear hw3
  obtain ⟨T4, hT4⟩ : ∃ T4 : Th, t = T4 := ⟨_, rfl⟩
  obtain ⟨s4, hs4⟩ : ∃ s4 : Int, st + 0 = s4 := ⟨_, rfl⟩
  have HFF := HF.out
  rw [hT4] at HFF
  rw [show st + 0 = st from Int.add_zero st] at hs4
  rw [hs4] at HFF ⊢
  have HF' := Lib.hid HFF
  have HT4 := Lib.hid (show (stp size t zs).t = T4 from (congrArg Sp.t HS.out).trans hT4)
  have HS4 := Lib.hid (show st + (stp size t zs).c = s4 from (congrArg (fun x => st + Sp.c x) HS.out).trans ((Int.add_zero st).trans hs4))
  have HK4 := Lib.hid (show (stp size t zs).k = 0 ∧ (stp size t zs).v = 0 ∧ (stp size t zs).d = false from ⟨congrArg Sp.k HS.out, congrArg Sp.v HS.out, congrArg Sp.d HS.out⟩)
  have HZ4 := Lib.hid (show (stp size t zs).zs = _ from congrArg Sp.zs HS.out)
  clear HF hT4 hs4 HFF
  have m := HF'.out.m
  have m0 := m.c0
  have m1 := m.c1
  have m2 := m.c2
  have x := HF'.out.x
  have c0 := x.c0
  have c1 := x.c1
  have c2 := x.c2
  have c3 := x.c3
  have c4 := x.c4
  have c5 := x.c5
  have c6 := x.c6
  have c7 := x.c7
  have c8 := x.c8
  have c9 := x.c9
  have c10 := x.c10
  have c11 := x.c11
  have c12 := x.c12
  have y := HF'.out.y
  have y0 := y.c0
  have y1 := y.c1
  have y2 := y.c2
  have yf := y.f
  have z := HF'.out.z
  have r0 := z.c0
  have r1 := z.c1
  have r2 := z.c2
  have r3 := z.c3
  have r4 := z.c4
  have r5 := z.c5
  have r6 := z.c6
  have r7 := z.c7
  have r8 := z.c8
  have r9 := z.c9
  have r10 := z.c10
  have r11 := z.c11
  have r12 := z.c12
  have zf := z.f
  have q0 := HRR.out.c0
  have q1 := HRR.out.c1
  have qf := HRR.out.f
  have FIN := HF'.out.fin3 HRR.out (by omega) (by omega) (by omega) (0) (0)
  clear m x y z
  go_region
  go_wp2
  change bodyPost _ _ _ _ _ (((setT (setM w3 (w.heap.size + 1 + 1) (.int .i64 size) (.slice au (zs.length) cu) (.int .i64 s4)) (w.heap.size + 1 + 1 + 1) T4 (.slice ao n cap)).setCell ⟨w.heap.size + 1 + 1 + 1 + 1, 0, none⟩ (.int .u8 (0))).setCell ⟨w.heap.size + 1 + 1 + 1 + 1, 1, none⟩ (.int .i32 (0))).drew
  generalize (((setT (setM w3 (w.heap.size + 1 + 1) (.int .i64 size) (.slice au (zs.length) cu) (.int .i64 s4)) (w.heap.size + 1 + 1 + 1) T4 (.slice ao n cap)).setCell ⟨w.heap.size + 1 + 1 + 1 + 1, 0, none⟩ (.int .u8 (0))).setCell ⟨w.heap.size + 1 + 1 + 1 + 1, 1, none⟩ (.int .i32 (0))) = wf at *
  obtain ⟨fm, fx, fr, o', l', b'⟩ := FIN
  have gm : Boxed wf.drew (w.heap.size + 1 + 1) (.int .i64 size) (.slice au (zs.length) cu) (.int .i64 s4) := fm
  have gx := fx.drew
  have gr : RB wf.drew (w.heap.size + 1 + 1 + 1 + 1) (0) (0) := fr
  refine bodyPost_ret (v := .tuple #[.agg #[.int .i64 size, .slice au (zs.length) cu, .int .i64 s4], thV T4 (.slice ao n cap), .agg #[.int .u8 (0), .int .i32 (0)], .bool false]) (by simp [results, Try.results22, go_sem, thV, gm.c0, gm.c1, gm.c2, gr.c0, gr.c1, gx.c0, gx.c1, gx.c2, gx.c3, gx.c4, gx.c5, gx.c6, gx.c7, gx.c8, gx.c9, gx.c10, gx.c11, gx.c12]) rfl ?_
  exact ⟨_, by rw [HT4.out, HS4.out, HK4.out.1, HK4.out.2.1, HK4.out.2.2], by rw [HZ4.out]; exact ⟨own_at o' (fun _ _ _ => rfl), l', b'.drew⟩⟩

set_option maxRecDepth 100000 in
set_option maxHeartbeats 16000000 in
theorem rst17 (h : w.ownsRow B 2 1 u zs.length (zs.map (Value.int .i64))) (hB : B ≤ w.heap.size) (hz : 0 ≤ size ∧ size ≤ 1000 ∧ (zs.length : Int) ≤ size) (ao : Option Addr) (n cap : Nat) (hp : 1 ≤ t.pc ∧ 16 < t.pc) (k0 : 0 ≤ st) (k1 : st < 1000000) :
    Calls Try.prog 22 #[.agg #[.int .i64 size, u, .int .i64 st], thV t (.slice ao n cap)] w (SPost w B u size t (.slice ao n cap) zs st) := by
  obtain ⟨au, cu, rfl⟩ := ownShape h
  have HTV := Lib.hid (show thV t (.slice ao n cap) = .agg #[.int .i64 t.ti, .int .i64 t.pc, .int .i64 t.rc, .int .i64 t.sq, .int .i64 t.wo, .int .i64 t.lk, .int .i64 t.cu, .int .i64 t.pv, .int .i64 t.nt, .int .i64 t.mx, .int .i64 t.ps, .int .i64 t.rn, .slice ao n cap] from rfl)
  rw [HTV.out]
  have HBB := Lib.hid hB
  have HZ := Lib.hid hz
  obtain ⟨W, hW⟩ : ∃ W, ((((w.alloc (.cells #[.int .i64 size, .slice au zs.length cu, .int .i64 st] 37)).alloc (.cells #[.int .i64 t.ti, .int .i64 t.pc, .int .i64 t.rc, .int .i64 t.sq, .int .i64 t.wo, .int .i64 t.lk, .int .i64 t.cu, .int .i64 t.pv, .int .i64 t.nt, .int .i64 t.mx, .int .i64 t.ps, .int .i64 t.rn, .slice ao n cap] 25)).alloc (.cells #[.int .i64 0, .slice none 0 0, .int .i64 0] 37)).alloc (.cells #[.int .i64 0, .int .i64 0, .int .i64 0, .int .i64 0, .int .i64 0, .int .i64 0, .int .i64 0, .int .i64 0, .int .i64 0, .int .i64 0, .int .i64 0, .int .i64 0, .slice none 0 0] 25)).alloc (.cells #[.int .u8 0, .int .i32 0] 49) = W := ⟨_, rfl⟩
  have HP := Lib.hid (QB.new h t (.slice ao n cap) W hW)
  have HW := Lib.hid hW
  have HPC := Lib.hid hp
  clear hW h hB hz hp
  go_enter Try.func22, Try.ntmps22
  go_upto_region 1 with (fail)
  rw [HW.out]
  clear HW
  obtain ⟨pc, hpc⟩ : ∃ pc, t.pc = pc := ⟨_, rfl⟩
  have HPX := Lib.hid hpc
  have x1 := HP.out.x.c1
  rw [hpc] at x1
  have hq := HPC.out
  rw [hpc] at hq
  clear hpc
  have q1 : decide (pc < 1) = false := decide_eq_false (by omega)
  have q2 : decide (16 < pc) = true := decide_eq_true hq.2
  go_upto_region 2 with (fail)
  clear x1 hq
  have HS := Lib.hid (stp0 size t zs (by have := HPC.out; omega))
  have HF := Lib.hid (PF.ofQB HP.out)
  have HRR := Lib.hid HP.out.r
  obtain ⟨w3, hw3⟩ : ∃ w3, w3 = W := ⟨_, rfl⟩
  rw [← hw3] at HF HRR ⊢
  clear hw3
  obtain ⟨T4, hT4⟩ : ∃ T4 : Th, t = T4 := ⟨_, rfl⟩
  obtain ⟨s4, hs4⟩ : ∃ s4 : Int, st + 0 = s4 := ⟨_, rfl⟩
  have HFF := HF.out
  rw [hT4] at HFF
  rw [show st + 0 = st from Int.add_zero st] at hs4
  rw [hs4] at HFF ⊢
  have HF' := Lib.hid HFF
  have HT4 := Lib.hid (show (stp size t zs).t = T4 from (congrArg Sp.t HS.out).trans hT4)
  have HS4 := Lib.hid (show st + (stp size t zs).c = s4 from (congrArg (fun x => st + Sp.c x) HS.out).trans ((Int.add_zero st).trans hs4))
  have HK4 := Lib.hid (show (stp size t zs).k = 0 ∧ (stp size t zs).v = 0 ∧ (stp size t zs).d = false from ⟨congrArg Sp.k HS.out, congrArg Sp.v HS.out, congrArg Sp.d HS.out⟩)
  have HZ4 := Lib.hid (show (stp size t zs).zs = _ from congrArg Sp.zs HS.out)
  clear HF hT4 hs4 HFF
  have m := HF'.out.m
  have m0 := m.c0
  have m1 := m.c1
  have m2 := m.c2
  have x := HF'.out.x
  have c0 := x.c0
  have c1 := x.c1
  have c2 := x.c2
  have c3 := x.c3
  have c4 := x.c4
  have c5 := x.c5
  have c6 := x.c6
  have c7 := x.c7
  have c8 := x.c8
  have c9 := x.c9
  have c10 := x.c10
  have c11 := x.c11
  have c12 := x.c12
  have y := HF'.out.y
  have y0 := y.c0
  have y1 := y.c1
  have y2 := y.c2
  have yf := y.f
  have z := HF'.out.z
  have r0 := z.c0
  have r1 := z.c1
  have r2 := z.c2
  have r3 := z.c3
  have r4 := z.c4
  have r5 := z.c5
  have r6 := z.c6
  have r7 := z.c7
  have r8 := z.c8
  have r9 := z.c9
  have r10 := z.c10
  have r11 := z.c11
  have r12 := z.c12
  have zf := z.f
  have q0 := HRR.out.c0
  have q1 := HRR.out.c1
  have qf := HRR.out.f
  have FIN := HF'.out.fin3 HRR.out (by omega) (by omega) (by omega) (0) (0)
  clear m x y z
  go_region
  go_wp2
  change bodyPost _ _ _ _ _ (((setT (setM w3 (w.heap.size + 1 + 1) (.int .i64 size) (.slice au (zs.length) cu) (.int .i64 s4)) (w.heap.size + 1 + 1 + 1) T4 (.slice ao n cap)).setCell ⟨w.heap.size + 1 + 1 + 1 + 1, 0, none⟩ (.int .u8 (0))).setCell ⟨w.heap.size + 1 + 1 + 1 + 1, 1, none⟩ (.int .i32 (0))).drew
  generalize (((setT (setM w3 (w.heap.size + 1 + 1) (.int .i64 size) (.slice au (zs.length) cu) (.int .i64 s4)) (w.heap.size + 1 + 1 + 1) T4 (.slice ao n cap)).setCell ⟨w.heap.size + 1 + 1 + 1 + 1, 0, none⟩ (.int .u8 (0))).setCell ⟨w.heap.size + 1 + 1 + 1 + 1, 1, none⟩ (.int .i32 (0))) = wf at *
  obtain ⟨fm, fx, fr, o', l', b'⟩ := FIN
  have gm : Boxed wf.drew (w.heap.size + 1 + 1) (.int .i64 size) (.slice au (zs.length) cu) (.int .i64 s4) := fm
  have gx := fx.drew
  have gr : RB wf.drew (w.heap.size + 1 + 1 + 1 + 1) (0) (0) := fr
  refine bodyPost_ret (v := .tuple #[.agg #[.int .i64 size, .slice au (zs.length) cu, .int .i64 s4], thV T4 (.slice ao n cap), .agg #[.int .u8 (0), .int .i32 (0)], .bool false]) (by simp [results, Try.results22, go_sem, thV, gm.c0, gm.c1, gm.c2, gr.c0, gr.c1, gx.c0, gx.c1, gx.c2, gx.c3, gx.c4, gx.c5, gx.c6, gx.c7, gx.c8, gx.c9, gx.c10, gx.c11, gx.c12]) rfl ?_
  exact ⟨_, by rw [HT4.out, HS4.out, HK4.out.1, HK4.out.2.1, HK4.out.2.2], by rw [HZ4.out]; exact ⟨own_at o' (fun _ _ _ => rfl), l', b'.drew⟩⟩
end

end Go.Proofs.Ythefdglocnalhaa.M2
