/-
  Step of reaperref17. Conditions: a document's memory of at most 1000 cells; steps below a million. Step of reaperref17. Conditions: a document's memory of at most 1000 cells; steps below a million. reaperref15.Same tells true of threads whose numbers are equal and whose batches read the same. Conditions: batches of at most a million items, that lie in memory. Cells of choices (reaperlaw13.Cells): a list of int64 of one's own, of at most forty numbers. Conditions: bytes, at most 200 of them. The walk of SweepRuns: for all choices and numbers it answers true and leaves all old memory as it was.
-/
import Derived.Test.YtfnjbbokbdddpaaG0617
import Derived.Test.YtfnjbbokbdddpaaG0717
import Derived.Test.YtfnjbbokbdddpaaG0417
import Derived.Test.YtfnjbbokbdddpaaG0317
import Derived.Test.YtfnjbbokbdddpaaG0217
import Derived.Test.YtfnjbbokbdddpaaG0517
import Derived.Test.YtfnjbbokbdddpaaKno17m
import Derived.Deep.Cut
import Derived.Deep.CutRange
namespace Go.Proofs.Ytfnjbbokbdddpaa.M2
open Go.RowKit

section
variable {w : World} {B : Nat} {u : Value} {size : Int} {zs : List Int} {st : Int} {t : Th}

set_option maxRecDepth 100000 in
set_option maxHeartbeats 16000000 in
theorem step45 (h : w.ownsRow B 2 1 u zs.length (zs.map (Value.int .i64))) (hB : B ≤ w.heap.size) (hl : zs.length ≤ 1000) (ao : Option Addr) (n cap : Nat) (ag : Int) (hp : t.pc = 45) (k0 : 0 ≤ st) (k1 : st < 1000000) :
    Calls Try.prog 29 #[.agg #[.int .i64 size, u, .int .i64 st], .int .i64 ag, thV t (.slice ao n cap)] w (RQ w B u size (.slice ao n cap) (swt ag t zs) st) := by
  obtain ⟨au, cu, rfl⟩ := ownShape h
  rw [show thV t (.slice ao n cap) = .agg #[.int .i64 t.ti, .int .i64 t.pc, .int .i64 t.rc, .int .i64 t.sq, .int .i64 t.wo, .int .i64 t.lk, .int .i64 t.cu, .int .i64 t.pv, .int .i64 t.nt, .int .i64 t.mx, .int .i64 t.ps, .int .i64 t.rn, .slice ao n cap] from rfl]
  have HL := Lib.hid hl
  have HBB := Lib.hid hB
  have HSW := Lib.hid (show swt ag t zs = ⟨{ t with lk := ld zs (ad t.cu 3), pc := 46 }, zs, cn zs (ad t.cu 3)⟩ by rw [swt45 ag t zs hp])
  have C0 := fun (W : World) (h : W.ownsRow B 2 1 (.slice au zs.length cu) zs.length (zs.map (Value.int .i64))) (hb : B ≤ W.heap.size) => refLd (size := size) (st := st) h hb hl ao n cap (t := t) (ad t.cu 3) k0 k1
  obtain ⟨L, hLL⟩ : ∃ L, ld zs (ad t.cu 3) = L := ⟨_, rfl⟩
  rw [hLL] at HSW C0
  have HC0 := Lib.hid C0
  clear C0 hLL
  have HPC := Lib.hid hp
  clear hp
  obtain ⟨W, hW⟩ : ∃ W, (((w.alloc (.cells #[.int .i64 size, .slice au zs.length cu, .int .i64 st] 39)).alloc (.cells #[.int .i64 t.ti, .int .i64 t.pc, .int .i64 t.rc, .int .i64 t.sq, .int .i64 t.wo, .int .i64 t.lk, .int .i64 t.cu, .int .i64 t.pv, .int .i64 t.nt, .int .i64 t.mx, .int .i64 t.ps, .int .i64 t.rn, .slice ao n cap] 25)).alloc (.cells #[.int .i64 0, .slice none 0 0, .int .i64 0] 39)).alloc (.cells #[.int .i64 0, .int .i64 0, .int .i64 0, .int .i64 0, .int .i64 0, .int .i64 0, .int .i64 0, .int .i64 0, .int .i64 0, .int .i64 0, .int .i64 0, .int .i64 0, .slice none 0 0] 25) = W := ⟨_, rfl⟩
  have HP := Lib.hid (PB.new h t (.slice ao n cap) W hW)
  have HW := Lib.hid hW
  clear hW h hl hB
  go_enter Try.func29, Try.ntmps29
  go_upto_region 1 with (fail)
  rw [HW.out]
  clear HW
  have m0 := HP.out.m.c0
  have m1 := HP.out.m.c1
  have m2 := HP.out.m.c2
  go_upto_region 2 with (fail)
  have HC := Lib.hid (SC.new HP.out)
  generalize hWA : W.alloc (.cells #[.int .i64 size, .slice au zs.length cu, .int .i64 st] 39) = WA
  have HM := Lib.hid (show Boxed WA w.heap.size (.int .i64 size) (.slice au zs.length cu) (.int .i64 st) by subst hWA; exact HP.out.m.alloc _)
  have HKB := Lib.hid (show Boxed WA W.heap.size (.int .i64 size) (.slice au zs.length cu) (.int .i64 st) by subst hWA; exact Boxed.new _ _ _ _)
  rw [hWA] at HC
  have HSZ := Lib.hid (show w.heap.size + 4 < WA.heap.size by subst hWA; have := HP.out.s; simp; omega)
  clear hWA m0 m1 m2 HP
  generalize W.heap.size = KK at *
  have hK := HC.out.e
  have hk1 : ¬ KK = w.heap.size + 1 := by omega
  have hk2 : ¬ KK = w.heap.size + 1 + 1 := by omega
  have hk3 : ¬ KK = w.heap.size + 1 + 1 + 1 := by omega
  have hk4 : ¬ w.heap.size + 1 = KK := by omega
  have hk5 : ¬ w.heap.size + 1 + 1 = KK := by omega
  have hk6 : ¬ w.heap.size + 1 + 1 + 1 = KK := by omega
  clear hK
  have x1 := HC.out.x.c1
  rw [HPC.out] at x1
  go_upto_region 16 with (fail)
  clear x1
  have m0 := HM.out.c0
  have m1 := HM.out.c1
  have m2 := HM.out.c2
  have x := HC.out.x
  have c0 := x.c0
  have c1 := x.c1
  have c2 := x.c2
  have c3 := x.c3
  have c4 := x.c4
  have c5 := x.c5
  have c6 := x.c6
  have c7 := x.c7
  have c8 := x.c8
  have c9 := x.c9
  have c10 := x.c10
  have c11 := x.c11
  have c12 := x.c12
  have C := HC0.out _ HC.out.o (Nat.le_trans HBB.out HC.out.b.size)
  rw [show thV t (.slice ao n cap) = .agg #[.int .i64 t.ti, .int .i64 t.pc, .int .i64 t.rc, .int .i64 t.sq, .int .i64 t.wo, .int .i64 t.lk, .int .i64 t.cu, .int .i64 t.pv, .int .i64 t.nt, .int .i64 t.mx, .int .i64 t.ps, .int .i64 t.rn, .slice ao n cap] from rfl, show ad t.cu 3 = wrap64 (t.cu + 3) from rfl] at C
  have HCC := Lib.hid C
  clear x C HC0
  go_wp2_with fail
  with_reducible refine HCC.out.mono ?_
  clear HCC m0 m1 m2 c0 c1 c2 c3 c4 c5 c6 c7 c8 c9 c10 c11 c12
  rintro e w2 ⟨u', rfl, l2⟩
  dsimp only at l2
  obtain ⟨a2, q2, rfl⟩ := ownShape l2.1
  rw [show thV ({ t with lk := L } : Th) (.slice ao n cap) = .agg #[.int .i64 t.ti, .int .i64 t.pc, .int .i64 t.rc, .int .i64 t.sq, .int .i64 t.wo, .int .i64 L, .int .i64 t.cu, .int .i64 t.pv, .int .i64 t.nt, .int .i64 t.mx, .int .i64 t.ps, .int .i64 t.rn, .slice ao n cap] from rfl, show wrap64 (t.cu + 3) = ad t.cu 3 from rfl]
  dsimp only
  go_upto_region 17 with (fail)
  generalize hW3 : (w2.alloc (.cells #[.int .i64 size, .slice a2 zs.length q2, .int .i64 (st + cn zs (ad t.cu 3))] 39)).alloc (.cells #[.int .i64 t.ti, .int .i64 t.pc, .int .i64 t.rc, .int .i64 t.sq, .int .i64 t.wo, .int .i64 L, .int .i64 t.cu, .int .i64 t.pv, .int .i64 t.nt, .int .i64 t.mx, .int .i64 t.ps, .int .i64 t.rn, .slice ao n cap] 25) = w3
  have ff : Below w2.heap.size w2 w3 := by subst hW3; exact ((Below.refl _ _).alloc (Nat.le_refl _) _).alloc (by simp) _
  have HX1 := Lib.hid (show Boxed w3 w2.heap.size (.int .i64 size) (.slice a2 zs.length q2) (.int .i64 (st + cn zs (ad t.cu 3))) by subst hW3; exact (Boxed.new _ _ _ _).alloc _)
  have HX2 := Lib.hid (show TX w3 (w2.heap.size + 1) { t with lk := L } (.slice ao n cap) by
    subst hW3
    have := TX.new (w2.alloc (.cells #[.int .i64 size, .slice a2 zs.length q2, .int .i64 (st + cn zs (ad t.cu 3))] 39)) { t with lk := L } (.slice ao n cap)
    rw [show (w2.alloc (.cells #[.int .i64 size, .slice a2 zs.length q2, .int .i64 (st + cn zs (ad t.cu 3))] 39)).heap.size = w2.heap.size + 1 by simp] at this
    exact this)
  have HKB2 := Lib.hid ((HKB.out.keep l2.2.2).keep ff)
  have HC2 := Lib.hid ((HC.out.call (Nat.le_of_lt (by have := HSZ.out; omega)) l2).fresh ff)
  have hKK := HC.out.e
  have hNN : w.heap.size + 5 ≤ w2.heap.size := by have := l2.2.2.size; have := HSZ.out; omega
  clear hW3 l2 HC HKB HM ff
  generalize w2.heap.size = NN at *
  have hn1 : ¬ NN + 1 = w.heap.size + 1 + 1 := by omega
  have hn2 : ¬ w.heap.size + 1 + 1 = NN + 1 := by omega
  have hn3 : ¬ NN + 1 = w.heap.size + 1 + 1 + 1 := by omega
  have hn4 : ¬ w.heap.size + 1 + 1 + 1 = NN + 1 := by omega
  have hn5 : ¬ NN = w.heap.size + 1 + 1 := by omega
  have hn6 : ¬ NN = w.heap.size + 1 + 1 + 1 := by omega
  have hn7 : ¬ NN = KK := by omega
  have hn8 : ¬ NN + 1 = KK := by omega
  have hn9 : ¬ NN = w.heap.size + 1 := by omega
  have hn10 : ¬ NN + 1 = w.heap.size + 1 := by omega
  clear hNN hKK
  obtain ⟨s9, hs9⟩ : ∃ s, st + cn zs (ad t.cu 3) = s := ⟨_, rfl⟩
  rw [hs9] at HX1
  have HS9 := Lib.hid hs9
  have n0 := HX1.out.c0
  have n1 := HX1.out.c1
  have n2' := HX1.out.c2
  have kf := HKB2.out.f
  have q0 := HKB2.out.c0
  have q1 := HKB2.out.c1
  have q2' := HKB2.out.c2
  clear hs9
  go_upto_region 18 with (fail)
  have HF := Lib.hid (HC2.out.setK s9)
  have HX3 := Lib.hid (show TX (setM w3 KK (.int .i64 size) (.slice a2 zs.length q2) (.int .i64 s9)) (NN + 1) { t with lk := L } (.slice ao n cap) from (setM_other w3 hn8 _ _ _).trans HX2.out)
  clear kf q0 q1 q2' n0 n1 n2' HC2 HKB2 HX1 HX2
  obtain ⟨v0, hv0⟩ : ∃ v, v = setM w3 KK (.int .i64 size) (.slice a2 zs.length q2) (.int .i64 s9) := ⟨_, rfl⟩
  rw [← hv0] at HF HX3
  change Code.wp _ _ _ _ (setM w3 KK (.int .i64 size) (.slice a2 zs.length q2) (.int .i64 s9))
  rw [← hv0]
  clear hv0
  have x := HX3.out
  have c0 := x.c0
  have c1 := x.c1
  have c2 := x.c2
  have c3 := x.c3
  have c4 := x.c4
  have c5 := x.c5
  have c6 := x.c6
  have c7 := x.c7
  have c8 := x.c8
  have c9 := x.c9
  have c10 := x.c10
  have c11 := x.c11
  have c12 := x.c12
  have y := HF.out.x
  have yf := y.f
  have r0 := y.c0
  have r1 := y.c1
  have r2 := y.c2
  have r3 := y.c3
  have r4 := y.c4
  have r5 := y.c5
  have r6 := y.c6
  have r7 := y.c7
  have r8 := y.c8
  have r9 := y.c9
  have r10 := y.c10
  have r11 := y.c11
  have r12 := y.c12
  clear x y
  go_upto_region 19 with (fail)
  change Code.wp _ _ _ _ (setT v0 (w.heap.size + 1) { t with lk := L } (.slice ao n cap))
  have HF' := Lib.hid (HF.out.thr (T2 := { t with lk := L }) (b2 := .slice ao n cap) hk1)
  clear HF HX3 yf c0 c1 c2 c3 c4 c5 c6 c7 c8 c9 c10 c11 c12 r0 r1 r2 r3 r4 r5 r6 r7 r8 r9 r10 r11 r12
  have HF := HF'
  clear HF'
  generalize setT v0 (w.heap.size + 1) { t with lk := L } (.slice ao n cap) = v9 at *
  have yy := HF.out.x.c1
  have yf := HF.out.x.f
  go_upto_region 29 with (fail)
  have HF' := Lib.hid (HF.out.set (HF.out.x.s1 46))
  clear HF yy yf
  generalize hV : v9.setCell ⟨w.heap.size + 1, 1, none⟩ (.int .i64 46) = v1
  rw [hV] at HF'
  have HF := HF'
  clear HF' hV
  obtain ⟨T4, hT4⟩ : ∃ T4 : Th, ({ t with lk := L, pc := 46 } : Th) = T4 := ⟨_, rfl⟩
  obtain ⟨s4, hs4⟩ : ∃ s4 : Int, s9 = s4 := ⟨_, rfl⟩
  have HFF := HF.out
  rw [hT4] at HFF
  rw [hs4] at HFF ⊢
  have HEQ := Lib.hid (show Ending.returned (.tuple #[.agg #[.int .i64 size, (.slice a2 zs.length q2), .int .i64 s4], thV T4 (.slice ao n cap)]) = .returned (.tuple #[.agg #[.int .i64 size, (.slice a2 zs.length q2), .int .i64 (st + ((swt ag t zs)).c)], thV ((swt ag t zs)).t (.slice ao n cap)]) by rw [← hs4, ← hT4, HSW.out, HS9.out])
  replace HF := Lib.hid HFF
  have HZQ := Lib.hid (show (swt ag t zs).zs = zs by rw [HSW.out])
  clear hT4 hs4 HFF
  have m := HF.out.m
  have m0 := m.c0
  have m1 := m.c1
  have m2 := m.c2
  have x := HF.out.x
  have c0 := x.c0
  have c1 := x.c1
  have c2 := x.c2
  have c3 := x.c3
  have c4 := x.c4
  have c5 := x.c5
  have c6 := x.c6
  have c7 := x.c7
  have c8 := x.c8
  have c9 := x.c9
  have c10 := x.c10
  have c11 := x.c11
  have c12 := x.c12
  have y := HF.out.y
  have y0 := y.c0
  have y1 := y.c1
  have y2 := y.c2
  have yf := y.f
  have z := HF.out.z
  have r0 := z.c0
  have r1 := z.c1
  have r2 := z.c2
  have r3 := z.c3
  have r4 := z.c4
  have r5 := z.c5
  have r6 := z.c6
  have r7 := z.c7
  have r8 := z.c8
  have r9 := z.c9
  have r10 := z.c10
  have r11 := z.c11
  have r12 := z.c12
  have zf := z.f
  have FIN := HF.out.fin
  clear m x y z
  go_region
  go_wp2
  change bodyPost _ _ _ _ _ (setT (setM v1 (w.heap.size + 1 + 1) (.int .i64 size) (.slice a2 zs.length q2) (.int .i64 s4)) (w.heap.size + 1 + 1 + 1) T4 (.slice ao n cap)).drew
  generalize setT (setM v1 (w.heap.size + 1 + 1) (.int .i64 size) (.slice a2 zs.length q2) (.int .i64 s4)) (w.heap.size + 1 + 1 + 1) T4 (.slice ao n cap) = wf at *
  obtain ⟨fm, fx, o', l', b'⟩ := FIN
  have gm : Boxed wf.drew (w.heap.size + 1 + 1) (.int .i64 size) (.slice a2 zs.length q2) (.int .i64 s4) := fm
  have gx := fx.drew
  refine bodyPost_ret (v := .tuple #[.agg #[.int .i64 size, (.slice a2 zs.length q2), .int .i64 s4], thV T4 (.slice ao n cap)]) (by simp [results, Try.results29, go_sem, thV, gm.c0, gm.c1, gm.c2, gx.c0, gx.c1, gx.c2, gx.c3, gx.c4, gx.c5, gx.c6, gx.c7, gx.c8, gx.c9, gx.c10, gx.c11, gx.c12]) rfl ?_
  refine ⟨_, HEQ.out, ?_⟩
  rw [HZQ.out]
  exact ⟨own_at o' (fun _ _ _ => rfl), l', b'.drew⟩
end

end Go.Proofs.Ytfnjbbokbdddpaa.M2
namespace Go.Proofs.Ytfnjbbokbdddpaa.M2
open Go.RowKit

section
variable {w : World} {B : Nat} {u : Value} {size : Int} {zs : List Int} {st : Int} {t : Th}

theorem refStep (h : w.ownsRow B 2 1 u zs.length (zs.map (Value.int .i64))) (hB : B ≤ w.heap.size) (hl : zs.length ≤ 1000) (ao : Option Addr) (n cap : Nat) (ag : Int) (hcu : ad t.cu 0 = t.cu) (k0 : 0 ≤ st) (k1 : st < 1000000) :
    Calls Try.prog 29 #[.agg #[.int .i64 size, u, .int .i64 st], .int .i64 ag, thV t (.slice ao n cap)] w (RQ w B u size (.slice ao n cap) (swt ag t zs) st) := by
  by_cases hp : 40 ≤ t.pc ∧ t.pc ≤ 48
  · rcases (show t.pc = 40 ∨ t.pc = 41 ∨ t.pc = 42 ∨ t.pc = 43 ∨ t.pc = 44 ∨ t.pc = 45 ∨ t.pc = 46 ∨ t.pc = 47 ∨ t.pc = 48 by omega) with e | e | e | e | e | e | e | e | e
    · exact step40 h hB hl ao n cap ag e k0 k1
    · exact step41 h hB hl ao n cap ag e k0 k1
    · exact step42 h hB hl ao n cap ag e k0 k1
    · exact step43 h hB hl ao n cap ag e k0 k1
    · cases hs : swb zs t.cu 0 with
      | true => exact step44y h hB hl ao n cap ag e hcu hs k0 k1
      | false => exact step44n h hB hl ao n cap ag e hcu hs k0 k1
    · exact step45 h hB hl ao n cap ag e k0 k1
    · exact step46 h hB hl ao n cap ag e k0 k1
    · exact step47 h hB hl ao n cap ag e k0 k1
    · exact step48 h hB hl ao n cap ag e k0 k1
  · exact stepNo h hB hl ao n cap ag hp k0 k1
end

end Go.Proofs.Ytfnjbbokbdddpaa.M2
namespace Go.Proofs.Ytfnjbbokbdddpaa.M2
open Go.RowKit

theorem neqItem (a b c : Int) (w : World) : (binOp .neq 93 (.agg #[.int .i64 a, .int .i64 b, .int .i64 c]) (.agg #[.int .i64 a, .int .i64 b, .int .i64 c])).run Try.prog w = .ok (.bool false) w := by
  have hE : (Op.equalIn 10000 93 (.agg #[.int .i64 a, .int .i64 b, .int .i64 c]) (.agg #[.int .i64 a, .int .i64 b, .int .i64 c])).run Try.prog w = .ok true w := by
    have hS : Try.prog.underlying 93 = some (.struct (Try.prog.fieldsOf 93)) := by kernel_rfl
    have hp : Try.prog.stoodInHeld 93 = false := by kernel_rfl
    rw [show (10000 : Nat) = 9998 + 1 + 1 from rfl, run_equalIn_agg w (9998 + 1) 93 _ _ hS hp]
    have u2 := Try.underlying2
    have a2 := Try.isAgg2
    have z2 := Try.sizeOf2
    have u3 := Try.underlying3
    have a3 := Try.isAgg3
    have z3 := Try.sizeOf3
    simp only [Program.fieldsOf, Try.underlying93]
    go_simp
  simp only [binOp]
  have hF : (Op.equalIn Op.maxDepth 93 (.agg #[.int .i64 a, .int .i64 b, .int .i64 c]) (.agg #[.int .i64 a, .int .i64 b, .int .i64 c])).run Try.prog w = .ok true w := hE
  simp [Op.equal, hF]

set_option maxRecDepth 100000 in
set_option maxHeartbeats 16000000 in
theorem sameT (w : World) (t : Th) (ao bo : Option Addr) (n cap dap : Nat) (l : List (Int × Int × Int)) (ha : Its w ao n l) (hb : Its w bo n l) (hn : n ≤ 1000000) :
    Calls Try.prog 30 #[thV t (.slice ao n cap), thV t (.slice bo n dap)] w fun e w' => e = .returned (.bool true) ∧ Below w.heap.size w w' := by
  unfold thV
  have HA := Lib.hid ha
  have HB := Lib.hid hb
  clear ha hb
  have heq := fun a b c => neqItem a b c
  go_enter Try.func30, Try.ntmps30
  go_upto_region 1 with (fail)
  generalize hW : (w.alloc (.cells #[.int .i64 t.ti, .int .i64 t.pc, .int .i64 t.rc, .int .i64 t.sq, .int .i64 t.wo, .int .i64 t.lk, .int .i64 t.cu, .int .i64 t.pv, .int .i64 t.nt, .int .i64 t.mx, .int .i64 t.ps, .int .i64 t.rn, .slice ao n cap] 25)).alloc (.cells #[.int .i64 t.ti, .int .i64 t.pc, .int .i64 t.rc, .int .i64 t.sq, .int .i64 t.wo, .int .i64 t.lk, .int .i64 t.cu, .int .i64 t.pv, .int .i64 t.nt, .int .i64 t.mx, .int .i64 t.ps, .int .i64 t.rn, .slice bo n dap] 25) = W
  have HX := Lib.hid (show TX W w.heap.size t (.slice ao n cap) by subst hW; exact (TX.new w t _).alloc _)
  have HY := Lib.hid (show TX W (w.heap.size + 1) t (.slice bo n dap) by
    subst hW
    have := TX.new (w.alloc (.cells #[.int .i64 t.ti, .int .i64 t.pc, .int .i64 t.rc, .int .i64 t.sq, .int .i64 t.wo, .int .i64 t.lk, .int .i64 t.cu, .int .i64 t.pv, .int .i64 t.nt, .int .i64 t.mx, .int .i64 t.ps, .int .i64 t.rn, .slice ao n cap] 25)) t (.slice bo n dap)
    simpa using this)
  have HBW := Lib.hid (show Below w.heap.size w W by subst hW; exact ((Below.refl _ _).alloc (Nat.le_refl _) _).alloc (by simp) _)
  have IA := Lib.hid (HA.out.keep HBW.out)
  have IB := Lib.hid (HB.out.keep HBW.out)
  have x12 := HX.out.c12
  have y12 := HY.out.c12
  clear hW
  go_upto_region 4 with (fail)
  go_loopw [5] (fun kv wr => ∃ j : Nat, j ≤ n ∧ kv = .int .i64 (j : Int) ∧ ∃ q, wr = W.drewN q) (fun kv _ => n - (intOf kv).toNat)
  case atStart => exact ⟨0, Nat.zero_le _, rfl, 0, rfl⟩
  case round =>
    obtain ⟨j, hj, rfl, q, rfl⟩ := hrel
    have x12 : (W.drewN q).cell? ⟨w.heap.size, 12, none⟩ = some (.slice ao n cap) := HX.out.c12
    have y12 : (W.drewN q).cell? ⟨w.heap.size + 1, 12, none⟩ = some (.slice bo n dap) := HY.out.c12
    by_cases hlt : j < n
    · obtain ⟨ab, af, rfl, al, ac⟩ := IA.out.2 (by omega)
      obtain ⟨bb, bf, rfl, bl, bc⟩ := IB.out.2 (by omega)
      obtain ⟨f0, f1, f2⟩ := fi_at l j (by rw [IA.out.1]; exact hlt)
      have p0 : W.cell? ⟨ab, af + j * 3, none⟩ = _ := ac _ _ f0
      have pd0 : (W.drewN q).cell? ⟨ab, af + j * 3, none⟩ = _ := ac _ _ f0
      have p1 : W.cell? ⟨ab, af + j * 3 + 1, none⟩ = _ := ac _ _ f1
      have pd1 : (W.drewN q).cell? ⟨ab, af + j * 3 + 1, none⟩ = _ := ac _ _ f1
      have p2 : W.cell? ⟨ab, af + j * 3 + 2, none⟩ = _ := ac _ _ f2
      have pd2 : (W.drewN q).cell? ⟨ab, af + j * 3 + 2, none⟩ = _ := ac _ _ f2
      have q0 : W.cell? ⟨bb, bf + j * 3, none⟩ = _ := bc _ _ f0
      have qd0 : (W.drewN q).cell? ⟨bb, bf + j * 3, none⟩ = _ := bc _ _ f0
      have q1 : W.cell? ⟨bb, bf + j * 3 + 1, none⟩ = _ := bc _ _ f1
      have qd1 : (W.drewN q).cell? ⟨bb, bf + j * 3 + 1, none⟩ = _ := bc _ _ f1
      have q2 : W.cell? ⟨bb, bf + j * 3 + 2, none⟩ = _ := bc _ _ f2
      have qd2 : (W.drewN q).cell? ⟨bb, bf + j * 3 + 2, none⟩ = _ := bc _ _ f2
      generalize l.getD j (0, 0, 0) = i at *
      clear ac bc f0 f1 f2
      have i1 : (j : Int) < n := by omega
      go_wp2
      go_quiet (fail)
      go_wp2
      go_roundw
      case rel => exact ⟨j + 1, hlt, by go_num, _, rfl⟩
      case measure => simp [intOf]; omega
    · have i1 : (n : Int) ≤ j := by omega
      have x0 : (W.drewN q).cell? ⟨w.heap.size, 0, none⟩ = some (.int .i64 t.ti) := HX.out.c0
      have x1 : (W.drewN q).cell? ⟨w.heap.size, 1, none⟩ = some (.int .i64 t.pc) := HX.out.c1
      have x2 : (W.drewN q).cell? ⟨w.heap.size, 2, none⟩ = some (.int .i64 t.rc) := HX.out.c2
      have x3 : (W.drewN q).cell? ⟨w.heap.size, 3, none⟩ = some (.int .i64 t.sq) := HX.out.c3
      have x4 : (W.drewN q).cell? ⟨w.heap.size, 4, none⟩ = some (.int .i64 t.wo) := HX.out.c4
      have x5 : (W.drewN q).cell? ⟨w.heap.size, 5, none⟩ = some (.int .i64 t.lk) := HX.out.c5
      have x6 : (W.drewN q).cell? ⟨w.heap.size, 6, none⟩ = some (.int .i64 t.cu) := HX.out.c6
      have x7 : (W.drewN q).cell? ⟨w.heap.size, 7, none⟩ = some (.int .i64 t.pv) := HX.out.c7
      have x8 : (W.drewN q).cell? ⟨w.heap.size, 8, none⟩ = some (.int .i64 t.nt) := HX.out.c8
      have x9 : (W.drewN q).cell? ⟨w.heap.size, 9, none⟩ = some (.int .i64 t.mx) := HX.out.c9
      have x10 : (W.drewN q).cell? ⟨w.heap.size, 10, none⟩ = some (.int .i64 t.ps) := HX.out.c10
      have x11 : (W.drewN q).cell? ⟨w.heap.size, 11, none⟩ = some (.int .i64 t.rn) := HX.out.c11
      have y0 : (W.drewN q).cell? ⟨w.heap.size + 1, 0, none⟩ = some (.int .i64 t.ti) := HY.out.c0
      have y1 : (W.drewN q).cell? ⟨w.heap.size + 1, 1, none⟩ = some (.int .i64 t.pc) := HY.out.c1
      have y2 : (W.drewN q).cell? ⟨w.heap.size + 1, 2, none⟩ = some (.int .i64 t.rc) := HY.out.c2
      have y3 : (W.drewN q).cell? ⟨w.heap.size + 1, 3, none⟩ = some (.int .i64 t.sq) := HY.out.c3
      have y4 : (W.drewN q).cell? ⟨w.heap.size + 1, 4, none⟩ = some (.int .i64 t.wo) := HY.out.c4
      have y5 : (W.drewN q).cell? ⟨w.heap.size + 1, 5, none⟩ = some (.int .i64 t.lk) := HY.out.c5
      have y6 : (W.drewN q).cell? ⟨w.heap.size + 1, 6, none⟩ = some (.int .i64 t.cu) := HY.out.c6
      have y7 : (W.drewN q).cell? ⟨w.heap.size + 1, 7, none⟩ = some (.int .i64 t.pv) := HY.out.c7
      have y8 : (W.drewN q).cell? ⟨w.heap.size + 1, 8, none⟩ = some (.int .i64 t.nt) := HY.out.c8
      have y9 : (W.drewN q).cell? ⟨w.heap.size + 1, 9, none⟩ = some (.int .i64 t.mx) := HY.out.c9
      have y10 : (W.drewN q).cell? ⟨w.heap.size + 1, 10, none⟩ = some (.int .i64 t.ps) := HY.out.c10
      have y11 : (W.drewN q).cell? ⟨w.heap.size + 1, 11, none⟩ = some (.int .i64 t.rn) := HY.out.c11
      go_wp2
      go_ret
      exact ⟨rfl, by first | exact below_drewN (below_drewN HBW.out _) _ | exact below_drewN HBW.out _⟩

end Go.Proofs.Ytfnjbbokbdddpaa.M2
namespace Go.Proofs.Ytfnjbbokbdddpaa.M2
open Go.RowKit

set_option maxRecDepth 100000 in
theorem func8Any {w W : World} {ao : Option Addr} {len cap : Nat} {xs : List Int} (h : ArgBytes w ao len cap xs) (hb : Below w.heap.size w W) (hl : len ≤ 200) (i : Int) (i0 : 0 ≤ i) (i1 : i ≤ 100000) :
    Calls Try.prog 28 #[.slice ao len cap, .int .i64 i] W fun e w' => (∃ q : Int, e = .returned (.int .i64 q) ∧ 0 ≤ q ∧ q ≤ 255) ∧ W = w' := by
  obtain ⟨k, rfl⟩ : ∃ k : Nat, i = (k : Int) := ⟨i.toNat, by omega⟩
  by_cases hk : k < len
  · have hzl := h.1.1
    obtain ⟨b, off, rfl, lb, hc⟩ := h.1.2 (by omega)
    have c0 := (hb.cell (p := ⟨b, off + k, none⟩) lb).trans (hc k hk)
    have hq := h.2.2.2 (xs.getD k 0) (by simp [List.getD, hzl, hk])
    have HQ := Lib.hid hq
    clear hc h hb hq hzl
    generalize xs.getD k 0 = q at *
    have k0 : (k : Int) < len := by omega
    have q0 := HQ.out.1
    have q1 := HQ.out.2
    go_enter Try.func28, Try.ntmps28
    go_wp2
    go_ret
    exact ⟨⟨q, rfl, q0, q1⟩, rfl⟩
  · have k0 : (len : Int) ≤ k := by omega
    clear h
    go_enter Try.func28, Try.ntmps28
    go_wp2
    go_ret
    exact ⟨⟨0, rfl, by omega, by omega⟩, rfl⟩

def OwnL (w : World) (v : Value) (zs : List Int) (wr : World) : Prop := wr.ownsRow w.heap.size 2 1 v zs.length (zs.map (Value.int .i64)) ∧ Below w.heap.size w wr

def CellsNew (w : World) (e : Ending) (w' : World) : Prop := ∃ ao cap zs, e = .returned (.slice ao zs.length cap) ∧ zs.length ≤ 40 ∧ OwnL w (.slice ao zs.length cap) zs w' ∧ ∀ z ∈ zs, (-1000 ≤ z ∧ z ≤ 9223372036854775807)

theorem OwnL.next {w wr W w2 : World} {v v' : Value} {zs ys : List Int} (h : OwnL w v zs wr) (hb : Below wr.heap.size wr W) (ho : w2.ownsRow w.heap.size 2 1 v' (zs.length + ys.length) (zs.map (Value.int .i64) ++ ys.map (Value.int .i64))) (hg : W.grownBy w2 v.ownBlock) : OwnL w v' (zs ++ ys) w2 := by
  refine ⟨?_, ?_⟩
  · rw [List.length_append, List.map_append]
    exact ho
  · have hw : Below w.heap.size w W := h.2.trans (hb.mono h.2.size)
    exact hw.grown hg hw.size (by intro g hg'; exact (h.1.lt g hg').1)

theorem cells5 (w : World) (l : List Int) : ∀ j u, (l.map (Value.int .i64))[j]? = some u → (w.alloc (.cells (l.map (Value.int .i64)).toArray 2)).cell? ((⟨w.heap.size, 0, none⟩ : Addr).add j) = some u := by
  intro j u hu
  have hn := heap_alloc_new w (.cells (l.map (Value.int .i64)).toArray 2)
  rw [Addr.add_lit, Nat.zero_add]
  unfold World.cell?
  simp only [hn]
  simpa using hu

def CellsRel (w : World) (n : Nat) (v i : Value) (wr : World) : Prop :=
  ∃ (k : Nat) (zs : List Int), k ≤ n ∧ i = .int .i64 k ∧ zs.length = 3 + 5 * k ∧ OwnL w v zs wr ∧ ∀ z ∈ zs, (-1000 ≤ z ∧ z ≤ 9223372036854775807)

set_option maxRecDepth 100000 in
set_option maxHeartbeats 16000000 in
theorem cellsAll (w : World) (ao : Option Addr) (len cap : Nat) (xs : List Int) (hx : ArgBytes w ao len cap xs) (hl : len ≤ 200) :
    Calls Try.prog 10 #[.slice ao len cap] w (CellsNew w) := by
  obtain ⟨i0, hi, hz0, hz1, hz2⟩ := info_parts infoInt64
  have HI := Lib.hid hi
  have H0 := Lib.hid hz0
  have H1 := Lib.hid hz1
  have H2 := Lib.hid hz2
  clear hi hz0 hz1 hz2
  have HX := Lib.hid hx
  have HF := Lib.hid (fun (W : World) (hb : Below w.heap.size w W) (i : Int) (i0 : 0 ≤ i) (i1 : i ≤ 100000) => func8Any hx hb hl i i0 i1)
  clear hx
  go_enter Try.func10, Try.ntmps10
  go_upto_if 13 with (fail)
  go_cut [3] from 14 to 18 (fun n wx => ∃ m : Nat, n = .int .i64 (m : Int) ∧ m ≤ 6 ∧ Hid (w = wx))
  case first =>
    by_cases h0 : 0 < len
    · have hzl := HX.out.1.1
      obtain ⟨b, off, rfl, lb, hc⟩ := HX.out.1.2 (by omega)
      have c0 := hc 0 h0
      rw [Nat.add_zero] at c0
      have hq := HX.out.2.2.2 (xs.getD 0 0) (by simp [List.getD, hzl, h0])
      clear hc
      generalize xs.getD 0 0 = q at *
      obtain ⟨q0, q1⟩ := hq
      have d0 : (0 : Int) < len := by omega
      go_wp2
      go_meet
      exact ⟨(q % 7).toNat, by rw [Int.toNat_of_nonneg (by omega)], by omega, rfl⟩
    · obtain rfl : len = 0 := by omega
      go_wp2
      go_meet
      exact ⟨0, rfl, by omega, rfl⟩
  case' rest => skip
  obtain ⟨n, rfl, hn6, hwc⟩ := hcut
  have hwc : w = wc := hwc
  subst hwc
  go_wp2_with fail
  refine (HF.out w (Below.refl _ _) 1 (by omega) (by omega)).mono ?_
  rintro e w' ⟨⟨t, rfl, t0, t1⟩, rfl⟩
  go_wp2_with fail
  refine (HF.out w (Below.refl _ _) 2 (by omega) (by omega)).mono ?_
  rintro e w' ⟨⟨q, rfl, q0, q1⟩, rfl⟩
  go_upto_region 6 with (fail)
  generalize hW : w.alloc (.cells #[.int .i64 (t % 3), .int .i64 0, .int .i64 (q % 20)] 2) = W
  have HW := Lib.hid (show W.heap[w.heap.size]? = some (Obj.cells #[.int .i64 (t % 3), .int .i64 0, .int .i64 (q % 20)] 2 (0, 0)) by subst hW; exact heap_alloc_new w _)
  have HB := Lib.hid (show Below w.heap.size w W by subst hW; exact (Below.refl _ _).alloc (Nat.le_refl _) _)
  clear hW
  go_cut [33] from 27 to 32 (fun c wx => ∃ b : Bool, c = .bool b ∧ (b = true → 0 < n ∧ 0 < t % 5) ∧ Hid (W = wx))
  case first =>
    rcases (show ¬ 0 < n ∨ (0 < n ∧ t % 5 = 0) ∨ (0 < n ∧ 0 < t % 5) from by omega) with h | ⟨h, h'⟩ | ⟨h, h'⟩
    · obtain rfl : n = 0 := by omega
      go_wp2
      go_meet
      exact ⟨false, rfl, by simp, rfl⟩
    · have h0 : (0 : Int) < n := by omega
      go_wp2
      go_meet
      exact ⟨false, rfl, by simp, rfl⟩
    · have h0 : (0 : Int) < n := by omega
      go_wp2
      go_meet
      exact ⟨true, rfl, fun _ => ⟨h, h'⟩, rfl⟩
  case' rest => skip
  obtain ⟨b, rfl, hb, hwx⟩ := hcut
  have HBB := Lib.hid hb
  have hwx : W = wc := hwx
  subst hwx
  have c1 : W.cell? ⟨w.heap.size, 1, none⟩ = some (.int .i64 0) := by unfold World.cell?; simp only [HW.out]; rfl
  have cf : W.frozen? ⟨w.heap.size, 1, none⟩ = false := by unfold World.frozen?; simp only [HW.out]; simp
  go_upto_if 33 with (fail)
  go_cut [] from 34 to 40 (fun wx => Hid (∃ y : Int, (-1000 ≤ y ∧ y ≤ 1000) ∧ OwnL w (.slice (some ⟨w.heap.size, 0, none⟩) 3 3) [t % 3, y, q % 20] wx))
  case first =>
    cases b with
    | false =>
      go_wp2
      go_meet
      refine ⟨0, by omega, rowOf (Nat.le_refl _) rfl (by decide) HW.out, HB.out⟩
    | true =>
      obtain ⟨n0, t0'⟩ := HBB.out rfl
      have h0 : (0 : Int) < n := by omega
      have hm0 : 0 ≤ t % (n : Int) := Int.emod_nonneg _ (by omega)
      have hm1 : t % (n : Int) < n := Int.emod_lt_of_pos _ h0
      go_wp2
      go_meet
      refine ⟨3 + 5 * (t % (n : Int)), by omega, rowOf (Nat.le_refl _) rfl (by decide) ?_, HB.out.setCell (Nat.le_refl _) _⟩
      rw [heap_setCell_same W w.heap.size 1 _ _ _ HW.out]
      rfl
  case' rest => skip
  obtain ⟨y, hy, hO⟩ := hcut
  have HBG := Lib.hid (show ∀ z ∈ [t % 3, y, q % 20], (-1000 ≤ z ∧ z ≤ 9223372036854775807) by intro z hz; simp only [List.mem_cons, List.not_mem_nil, or_false] at hz; rcases hz with rfl | rfl | rfl <;> omega)
  clear hy
  have HOW := Lib.hid hO
  clear hO HW HB c1 cf HBB hb
  go_wp2
  go_loopw [5, 6] (fun v i wr => CellsRel w n v i wr) (fun _ i _ => n - (intOf i).toNat)
  case atStart => exact ⟨0, _, by omega, rfl, rfl, HOW.out, HBG.out⟩
  case round =>
    obtain ⟨k, zs, hk, rfl, hzn, hO, hbg⟩ := hrel
    have HBz := Lib.hid hbg
    clear hbg HBG
    have HO := Lib.hid hO
    have HN := Lib.hid hzn
    obtain ⟨aq, cq, rfl⟩ := ownShape hO.1
    clear hO HOW hzn
    by_cases hlt : k < n
    · have k0 : (k : Int) < n := by omega
      go_wp2_with fail
      refine (HF.out wr HO.out.2 _ (by omega) (by omega)).mono ?_
      rintro e w' ⟨⟨x, rfl, x0, x1⟩, rfl⟩
      go_wp2_with fail
      refine (HF.out wr HO.out.2 _ (by omega) (by omega)).mono ?_
      rintro e w' ⟨⟨yv, rfl, y0, y1⟩, rfl⟩
      go_upto_if 58 with (fail)
      go_cut [9] from 57 to 64 (fun d wx => ∃ g : Int, d = .int .i64 g ∧ (-1000 ≤ g ∧ g ≤ 1000) ∧ Hid (wr = wx))
      case first =>
        by_cases h5 : 0 < x % 5
        · have hm0 : 0 ≤ x / 5 % (n : Int) := Int.emod_nonneg _ (by omega)
          have hm1 : x / 5 % (n : Int) < n := Int.emod_lt_of_pos _ (by omega)
          go_wp2
          go_meet
          exact ⟨_, rfl, by omega, rfl⟩
        · have h5' : x % 5 = 0 := by omega
          go_wp2
          go_meet
          exact ⟨_, rfl, by omega, rfl⟩
      case' rest => skip
      obtain ⟨g, rfl, hg, hwr⟩ := hcut
      have hwr : wr = wc := hwr
      subst hwr
      go_upto_if 66 with (fail)
      go_cut [9] from 66 to 67 (fun d wx => ∃ g : Int, d = .int .i64 g ∧ (-1000 ≤ g ∧ g ≤ 1000) ∧ Hid (wr = wx))
      case first =>
        rcases (show (x == 77) = true ∨ (x == 77) = false by cases (x == 77) <;> simp) with h7 | h7
        · go_wp2
          go_meet
          exact ⟨_, rfl, by omega, rfl⟩
        · go_wp2
          go_meet
          exact ⟨_, rfl, by omega, rfl⟩
      case' rest => skip
      obtain ⟨g2v, rfl, hg2, hwr⟩ := hcut
      have hwr : wr = wc := hwr
      subst hwr
      go_upto_region 19 with (fail)
      have hr : -1000 ≤ yv % 4 - 1 ∧ yv % 4 - 1 ≤ 1000 := by omega
      have HR3 := Lib.hid (And.intro hr (And.intro hg2 x1))
      clear hr hg2 hg
      generalize yv % 4 - 1 = r at *
      go_wp2_with fail
      refine (HF.out wr HO.out.2 _ (by omega) (by omega)).mono ?_
      rintro e w' ⟨⟨b1, rfl, _, _⟩, rfl⟩
      go_wp2_with fail
      refine (HF.out wr HO.out.2 _ (by omega) (by omega)).mono ?_
      rintro e w' ⟨⟨b2, rfl, _, _⟩, rfl⟩
      go_wp2_with (at_builtin; refine wpList_append_later rfl (.tmp 71) (.tmp 89) 22 rfl w.heap.size 2 i0 (.int .i64 0) 1 8 Try.underlying22 HI.out H0.out H1.out H2.out rfl (by decide) _ _ _ rfl (HO.out.1.alloc _) ⟨wr.heap.size, 0, none⟩ 5 5 ([r, b1 % 4 % 3, b2 % 20, g2v, x * 300].map (Value.int .i64)) rfl (by simp) (cells5 wr [r, b1 % 4 % 3, b2 % 20, g2v, x * 300]) (ints_oneCell _ _) (by have := HN.out; simp only [maxLen]; omega) (by have := HN.out; omega) (Nat.le_trans HO.out.2.size (by simp)) ?_; intro v' w2 o2 g2 _; have HN2 := Lib.hid (OwnL.next HO.out ((Below.refl wr.heap.size wr).alloc (Nat.le_refl _) _) (ys := [r, b1 % 4 % 3, b2 % 20, g2v, x * 300]) o2 g2); clear o2 g2)
      have HBn := Lib.hid (show ∀ z ∈ zs ++ [r, b1 % 4 % 3, b2 % 20, g2v, x * 300], (-1000 ≤ z ∧ z ≤ 9223372036854775807) by
        intro z hz
        rcases List.mem_append.1 hz with hz | hz
        · exact HBz.out z hz
        · simp only [List.mem_cons, List.not_mem_nil, or_false] at hz
          obtain ⟨q1, q2, q3⟩ := HR3.out
          rcases hz with rfl | rfl | rfl | rfl | rfl <;> omega)
      go_roundw
      case rel => exact ⟨k + 1, _, by omega, by go_num, by have := HN.out; simp; omega, HN2.out, HBn.out⟩
      case measure => simp [intOf]; omega
    · obtain rfl : k = n := by omega
      by_cases h3 : (len : Int) % 3 = 2
      · have e3 : (((len : Int) % 3) == 2) = true := by simpa using h3
        go_wp2_with (at_builtin; refine wpList_append_later rfl (.tmp 95) (.tmp 96) 22 rfl w.heap.size 2 i0 (.int .i64 0) 1 8 Try.underlying22 HI.out H0.out H1.out H2.out rfl (by decide) _ _ _ rfl (HO.out.1.alloc _) ⟨wr.heap.size, 0, none⟩ 2 2 ([(1 : Int), 2].map (Value.int .i64)) rfl (by simp) (cells5 wr [1, 2]) (ints_oneCell _ _) (by have := HN.out; simp only [maxLen]; omega) (by have := HN.out; omega) (Nat.le_trans HO.out.2.size (by simp)) ?_; intro v' w2 o2 g2 _; have HN2 := Lib.hid (OwnL.next HO.out ((Below.refl wr.heap.size wr).alloc (Nat.le_refl _) _) (ys := [1, 2]) o2 g2); clear o2 g2)
        obtain ⟨a2, c2, e2⟩ := ownShape HN2.out.1
        subst e2
        go_ret
        exact ⟨a2, c2, _, rfl, by have := HN.out; simp; omega, HN2.out, fun z hz => by
          rcases List.mem_append.1 hz with hz | hz
          · exact HBz.out z hz
          · simp only [List.mem_cons, List.not_mem_nil, or_false] at hz
            rcases hz with rfl | rfl <;> omega⟩
      · have e3 : (((len : Int) % 3) == 2) = false := by simpa using h3
        go_wp2
        go_ret
        exact ⟨aq, cq, zs, rfl, by have := HN.out; omega, HO.out, HBz.out⟩

end Go.Proofs.Ytfnjbbokbdddpaa.M2
namespace Go.Proofs.Ytfnjbbokbdddpaa.M2
open Go.RowKit

def Gd (zs : List Int) : Prop := ∀ z ∈ zs, -1000 ≤ z ∧ z ≤ 9223372036854775807
theorem Gd.ld {zs : List Int} (h : Gd zs) (a : Int) : ad (M2.ld zs a) 0 = M2.ld zs a := by
  have hb : -1000 ≤ M2.ld zs a ∧ M2.ld zs a ≤ 9223372036854775807 := by
    unfold M2.ld
    split
    · rename_i i
      refine h _ ?_
      have : a.toNat < zs.length := by omega
      simp [List.getD, this]
    · omega
  unfold ad wrap64
  omega
theorem Gd.set {zs : List Int} (h : Gd zs) {i : Nat} {x : Int} (hx : -1000 ≤ x ∧ x ≤ 9223372036854775807) : Gd (zs.set i x) := by
  intro z hz
  rcases List.mem_or_eq_of_mem_set hz with hz | rfl
  · exact h z hz
  · exact hx
theorem Gd.get {zs : List Int} (h : Gd zs) (a : Int) : -1000 ≤ M2.ld zs a ∧ M2.ld zs a ≤ 9223372036854775807 := by
  unfold M2.ld
  split
  · rename_i i
    refine h _ ?_
    have : a.toNat < zs.length := by omega
    simp [List.getD, this]
  · omega

structure GT (t : Th) : Prop where
  cu : ad t.cu 0 = t.cu
  lk : -1000 ≤ t.lk ∧ t.lk ≤ 9223372036854775807
theorem GT.step {t : Th} {zs : List Int} (g : GT t) (h : Gd zs) (ag : Int) : GT (swt ag t zs).t ∧ Gd (swt ag t zs).zs := by
  have hl := h.get
  have hs : ∀ a x, -1000 ≤ x ∧ x ≤ 9223372036854775807 → Gd (sto zs a x) := fun a x hx => by
    unfold sto
    split
    · exact h.set hx
    · exact h
  have hw : Gd (swp zs (ad t.cu 0) 0 (-1)) := by
    unfold swp
    split
    · exact h.set (by omega)
    · exact h
  have hp : ∀ (is : Bool) (e : Int) (x : Th), GT x → GT (tkT is e x) := fun is e x hx => by
    cases is
    · exact ⟨hx.cu, hx.lk⟩
    · exact ⟨hx.cu, hx.lk⟩
  have hk : ∀ a, GT { t with lk := ld zs a } := fun a => ⟨g.cu, hl a⟩
  by_cases h48 : 40 ≤ t.pc ∧ t.pc ≤ 48
  · rcases (show t.pc = 40 ∨ t.pc = 41 ∨ t.pc = 42 ∨ t.pc = 43 ∨ t.pc = 44 ∨ t.pc = 45 ∨ t.pc = 46 ∨ t.pc = 47 ∨ t.pc = 48 by omega) with e | e | e | e | e | e | e | e | e
    · rw [swt40 ag t zs e]
      refine ⟨?_, h⟩
      dsimp only
      split
      · exact ⟨g.cu, by show -1000 ≤ (0 : Int) ∧ (0 : Int) ≤ 9223372036854775807; omega⟩
      · exact ⟨g.cu, hl _⟩
    · rw [swt41 ag t zs e]
      refine ⟨?_, h⟩
      dsimp only
      split
      · exact ⟨g.cu, by show -1000 ≤ (0 : Int) ∧ (0 : Int) ≤ 9223372036854775807; omega⟩
      · exact ⟨h.ld _, hl _⟩
    · rw [swt42 ag t zs e]; exact ⟨hp _ _ _ (hk _), h⟩
    · rw [swt43 ag t zs e]; exact ⟨hp _ _ _ (hk _), h⟩
    · rw [swt44 ag t zs e]; exact ⟨hp _ _ _ g, hw⟩
    · rw [swt45 ag t zs e]; exact ⟨⟨g.cu, hl _⟩, h⟩
    · rw [swt46 ag t zs e]; exact ⟨⟨g.cu, g.lk⟩, hs _ _ g.lk⟩
    · rw [swt47 ag t zs e]; exact ⟨⟨g.cu, g.lk⟩, hs _ _ (by omega)⟩
    · rw [swt48 ag t zs e]; exact ⟨⟨g.cu, g.lk⟩, hs _ _ (by omega)⟩
  · rw [swt0 ag t zs h48]
    exact ⟨g, h⟩

structure RE (w : World) (p gr gt gu : Nat) (len : Int) (v : Value) (a7 : Option Addr) (m7 c7 : Nat) (zs : List Int) (st sd : Int) (T : Th) (W : World) : Prop where
  k : RN w p gr gt gu v (.slice a7 m7 c7) len zs zs st sd T T (.slice none 0 0) (.slice none 0 0) W
  e : zs.length = m7
section
variable {w W V : World} {p gr gt gu : Nat} {len : Int} {v : Value} {a7 : Option Addr} {m7 c7 : Nat} {zs : List Int} {st sd : Int} {T : Th}
theorem RE.fresh (h : RE w p gr gt gu len v a7 m7 c7 zs st sd T W) (hb : Below W.heap.size W V) : RE w p gr gt gu len v a7 m7 c7 zs st sd T V := ⟨h.k.fresh hb, h.e⟩
theorem RE.cells (h : RE w p gr gt gu len v a7 m7 c7 zs st sd T W) : W.cell? ⟨gt, 0, none⟩ = some (.int .i64 T.ti) ∧ W.cell? ⟨gt, 1, none⟩ = some (.int .i64 T.pc) ∧ W.cell? ⟨gt, 2, none⟩ = some (.int .i64 T.rc) ∧ W.cell? ⟨gt, 3, none⟩ = some (.int .i64 T.sq) ∧ W.cell? ⟨gt, 4, none⟩ = some (.int .i64 T.wo) ∧ W.cell? ⟨gt, 5, none⟩ = some (.int .i64 T.lk) ∧ W.cell? ⟨gt, 6, none⟩ = some (.int .i64 T.cu) ∧ W.cell? ⟨gt, 7, none⟩ = some (.int .i64 T.pv) ∧ W.cell? ⟨gt, 8, none⟩ = some (.int .i64 T.nt) ∧ W.cell? ⟨gt, 9, none⟩ = some (.int .i64 T.mx) ∧ W.cell? ⟨gt, 10, none⟩ = some (.int .i64 T.ps) ∧ W.cell? ⟨gt, 11, none⟩ = some (.int .i64 T.rn) ∧ W.cell? ⟨gt, 12, none⟩ = some (.slice none 0 0) ∧ W.cell? ⟨gu, 0, none⟩ = some (.int .i64 T.ti) ∧ W.cell? ⟨gu, 1, none⟩ = some (.int .i64 T.pc) ∧ W.cell? ⟨gu, 2, none⟩ = some (.int .i64 T.rc) ∧ W.cell? ⟨gu, 3, none⟩ = some (.int .i64 T.sq) ∧ W.cell? ⟨gu, 4, none⟩ = some (.int .i64 T.wo) ∧ W.cell? ⟨gu, 5, none⟩ = some (.int .i64 T.lk) ∧ W.cell? ⟨gu, 6, none⟩ = some (.int .i64 T.cu) ∧ W.cell? ⟨gu, 7, none⟩ = some (.int .i64 T.pv) ∧ W.cell? ⟨gu, 8, none⟩ = some (.int .i64 T.nt) ∧ W.cell? ⟨gu, 9, none⟩ = some (.int .i64 T.mx) ∧ W.cell? ⟨gu, 10, none⟩ = some (.int .i64 T.ps) ∧ W.cell? ⟨gu, 11, none⟩ = some (.int .i64 T.rn) ∧ W.cell? ⟨gu, 12, none⟩ = some (.slice none 0 0) ∧ W.cell? ⟨gr, 1, none⟩ = some (.slice a7 m7 c7) :=
  ⟨h.k.t.c0, h.k.t.c1, h.k.t.c2, h.k.t.c3, h.k.t.c4, h.k.t.c5, h.k.t.c6, h.k.t.c7, h.k.t.c8, h.k.t.c9, h.k.t.c10, h.k.t.c11, h.k.t.c12, h.k.y.c0, h.k.y.c1, h.k.y.c2, h.k.y.c3, h.k.y.c4, h.k.y.c5, h.k.y.c6, h.k.y.c7, h.k.y.c8, h.k.y.c9, h.k.y.c10, h.k.y.c11, h.k.y.c12, h.k.r.c1⟩
theorem RE.sameE (h : RE w p gr gt gu len v a7 m7 c7 zs st sd T W) : Calls Try.prog 30 #[.agg #[.int .i64 T.ti, .int .i64 T.pc, .int .i64 T.rc, .int .i64 T.sq, .int .i64 T.wo, .int .i64 T.lk, .int .i64 T.cu, .int .i64 T.pv, .int .i64 T.nt, .int .i64 T.mx, .int .i64 T.ps, .int .i64 T.rn, .slice none 0 0], .agg #[.int .i64 T.ti, .int .i64 T.pc, .int .i64 T.rc, .int .i64 T.sq, .int .i64 T.wo, .int .i64 T.lk, .int .i64 T.cu, .int .i64 T.pv, .int .i64 T.nt, .int .i64 T.mx, .int .i64 T.ps, .int .i64 T.rn, .slice none 0 0]] W fun e w' => e = .returned (.bool true) ∧ RE w p gr gt gu len v a7 m7 c7 zs st sd T w' :=
  (sameT W T none none 0 0 0 [] (Its.zero _ _) (Its.zero _ _) (by omega)).mono fun e w' ⟨he, hb⟩ => ⟨he, h.fresh hb⟩
theorem RE.cellsE (h : RE w p gr gt gu len v a7 m7 c7 zs st sd T W) :
    Calls Try.prog 18 #[.pointer (some ⟨p, 0, none⟩)] W fun e w' => e = .returned (.slice (some ⟨W.heap.size, 0, none⟩) m7 m7) ∧ Reads .i64 w' (some ⟨W.heap.size, 0, none⟩) m7 zs ∧ RE w p gr gt gu len v a7 m7 c7 zs st sd T w' := by
  have C := cells1 ⟨_, h.k.d.m⟩
  rw [h.e] at C
  refine C.mono ?_
  rintro e w' ⟨rfl, o, b⟩
  obtain ⟨aq, cq, e, r, _⟩ := _root_.Go.Proofs.Ytfnjbbokbdddpaa.reads_own o
  simp only [Value.slice.injEq] at e
  obtain ⟨rfl, _, rfl⟩ := e
  exact ⟨rfl, r, h.fresh b⟩
theorem RE.sameC (h : RE w p gr gt gu len v a7 m7 c7 zs st sd T W) {g : Option Addr} (r : Reads .i64 W g m7 zs) (hm : m7 ≤ 1000) :
    Calls Try.prog 23 #[.slice g m7 m7, .slice a7 m7 c7] W fun e w' => e = .returned (.bool true) ∧ RE w p gr gt gu len v a7 m7 c7 zs st sd T w' := by
  have o := h.k.d.o
  rw [h.e] at o
  obtain ⟨aq, cq, e, r2, _⟩ := _root_.Go.Proofs.Ytfnjbbokbdddpaa.reads_own o
  simp only [Value.slice.injEq] at e
  obtain ⟨rfl, _, rfl⟩ := e
  exact (sameEq W g a7 m7 m7 c7 zs r r2 (by omega)).mono fun e w' ⟨he, hb⟩ => ⟨he, h.fresh hb⟩
end

def RunRel (w : World) (p gr gt gu : Nat) (len : Nat) (kv : Value) (wr : World) : Prop :=
  ∃ (j : Nat) (v u : Value) (zs : List Int) (st sd : Int) (T : Th), j ≤ 80 ∧ kv = .int .i64 (j : Int) ∧ RN w p gr gt gu v u (len : Int) zs zs st sd T T (.slice none 0 0) (.slice none 0 0) wr ∧ GT T ∧ Gd zs ∧ zs.length = len ∧ (0 ≤ st ∧ st ≤ 1000 + (j : Int)) ∧ (0 ≤ sd ∧ sd ≤ 1000 + (j : Int))

set_option maxRecDepth 100000 in
set_option maxHeartbeats 16000000 in
theorem runsAny {w : World} (al : Option Addr) (ll cl : Nat) (zs0 : List Int) (hz : Reads .i64 w al ll zs0) (hl : ll ≤ 200) (hg : Gd zs0) (ag P : Int) :
    Calls Try.prog 13 #[.slice al ll cl, .int .i64 ag, .int .i64 P] w fun e w' => e = .returned (.bool true) ∧ Below w.heap.size w w' := by
  obtain rfl : zs0.length = ll := hz.1
  have HG := Lib.hid hg
  have HL := Lib.hid hl
  have HZ := Lib.hid hz
  clear hg hz
  obtain ⟨len, hlen⟩ : ∃ n, zs0.length = n := ⟨_, rfl⟩
  rw [hlen] at HL HZ ⊢
  have HLE := Lib.hid hlen
  have C := memoryTwo w al len cl zs0 HZ.out HL.out
  unfold MadeT at C
  rw [hlen] at C
  have HC := Lib.hid C
  clear C hlen hl
  go_enter Try.func13, Try.ntmps13
  go_wp2_with fail
  with_reducible refine HC.out.mono ?_
  clear HC
  rintro e w1 ⟨p, u, v, rfl, m1, o1, n1, b1⟩
  have HD := Lib.hid (show DM w p v u (len : Int) zs0 (1 + (len : Int)) zs0 w1 from ⟨m1, by rw [HLE.out]; exact o1, n1, b1⟩)
  obtain ⟨au, cu, rfl⟩ := ownShape o1
  clear m1 o1 n1 b1
  go_upto_region 4 with (fail)
  generalize hW2 : w1.alloc (.cells #[.int .i64 (len : Int), .slice au len cu, .int .i64 (1 + (len : Int))] 39) = w2
  have f2 : Below w1.heap.size w1 w2 := by subst hW2; exact (Below.refl _ _).alloc (Nat.le_refl _) _
  have HR := Lib.hid (show Boxed w2 w1.heap.size (.int .i64 (len : Int)) (.slice au len cu) (.int .i64 (1 + (len : Int))) by subst hW2; exact Boxed.new _ _ _ _)
  have HGR := Lib.hid (show w.heap.size ≤ w1.heap.size from HD.out.b.size)
  replace HD := Lib.hid (HD.out.fresh f2)
  clear f2 hW2
  generalize w1.heap.size = gr at *
  obtain ⟨T0, hT0⟩ : ∃ T : Th, ({ t0 with pc := 40, ps := P } : Th) = T := ⟨_, rfl⟩
  have HGT := Lib.hid (show GT T0 by subst hT0; exact ⟨by show ad 0 0 = 0; unfold ad wrap64; omega, by show -1000 ≤ (0 : Int) ∧ (0 : Int) ≤ 9223372036854775807; omega⟩)
  go_upto_region 5 with (fail)
  generalize hW3 : w2.alloc (.cells #[.int .i64 0, .int .i64 40, .int .i64 0, .int .i64 0, .int .i64 0, .int .i64 0, .int .i64 0, .int .i64 0, .int .i64 0, .int .i64 0, .int .i64 P, .int .i64 0, .slice none 0 0] 25) = w3
  have f3 : Below w2.heap.size w2 w3 := by subst hW3; exact (Below.refl _ _).alloc (Nat.le_refl _) _
  have HT := Lib.hid (show TX w3 w2.heap.size T0 (.slice none 0 0) by subst hW3 hT0; exact TX.new w2 { t0 with pc := 40, ps := P } _)
  have HGT2 := Lib.hid (show w.heap.size ≤ w2.heap.size from HD.out.b.size)
  replace HD := Lib.hid (HD.out.fresh f3)
  replace HR := Lib.hid (HR.out.keep f3)
  clear f3 hW3
  generalize w2.heap.size = gt at *
  go_upto_region 6 with (fail)
  generalize hW4 : w3.alloc (.cells #[.int .i64 0, .int .i64 40, .int .i64 0, .int .i64 0, .int .i64 0, .int .i64 0, .int .i64 0, .int .i64 0, .int .i64 0, .int .i64 0, .int .i64 P, .int .i64 0, .slice none 0 0] 25) = w4
  have f4 : Below w3.heap.size w3 w4 := by subst hW4; exact (Below.refl _ _).alloc (Nat.le_refl _) _
  have HK := Lib.hid (show RN w p gr gt w3.heap.size v (.slice au len cu) (len : Int) zs0 zs0 (1 + (len : Int)) (1 + (len : Int)) T0 T0 (.slice none 0 0) (.slice none 0 0) w4 from
    ⟨HD.out.fresh f4, HR.out.keep f4, HT.out.keep f4, by subst hW4 hT0; exact TX.new w3 { t0 with pc := 40, ps := P } _, ⟨HGR.out, HGT2.out, HD.out.b.size⟩, by have := HT.out.lt; omega⟩)
  clear f4 hW4 HD HR HT hT0 HGR HGT2
  generalize w3.heap.size = gu at *
  go_wp2
  go_loopw [11] (fun kv wr => RunRel w p gr gt gu len kv wr) (fun kv _ => 80 - (intOf kv).toNat)
  case atStart => exact ⟨0, v, _, zs0, _, _, T0, by omega, rfl, HK.out, HGT.out, HG.out, HLE.out, by have := HL.out; omega, by have := HL.out; omega⟩
  case round =>
    obtain ⟨j, v, u, zs, st, sd, T, hj, rfl, hK, hgt, hgd, hle, hst, hsd⟩ := hrel
    clear HK HGT HG HLE HZ
    by_cases hlt : j < 80
    · have hlt' : (j : Int) < 80 := by omega
      have HJ := Lib.hid hlt
      obtain ⟨au2, cu2, eu⟩ := ownShape hK.d.o
      subst eu
      obtain ⟨S, hS⟩ : ∃ S, swt ag T zs = S := ⟨_, rfl⟩
      have HS := Lib.hid hS
      have hstep := hgt.step hgd ag
      have hlen := swt_len ag T zs
      have hc := swt_c ag T zs
      rw [hS] at hstep hlen hc
      have HSG := Lib.hid hstep
      have HSL := Lib.hid hlen
      have HSC := Lib.hid hc
      have HCU := Lib.hid hgt.cu
      have HLE := Lib.hid hle
      have C := stepM hK.d.m ag T hst.1 (by omega)
      rw [hS, show thN T = .agg #[.int .i64 T.ti, .int .i64 T.pc, .int .i64 T.rc, .int .i64 T.sq, .int .i64 T.wo, .int .i64 T.lk, .int .i64 T.cu, .int .i64 T.pv, .int .i64 T.nt, .int .i64 T.mx, .int .i64 T.ps, .int .i64 T.rn, .slice none 0 0] from rfl, show thN S.t = .agg #[.int .i64 S.t.ti, .int .i64 S.t.pc, .int .i64 S.t.rc, .int .i64 S.t.sq, .int .i64 S.t.wo, .int .i64 S.t.lk, .int .i64 S.t.cu, .int .i64 S.t.pv, .int .i64 S.t.nt, .int .i64 S.t.mx, .int .i64 S.t.ps, .int .i64 S.t.rn, .slice none 0 0] from rfl] at C
      have HCC := Lib.hid C
      have HST := Lib.hid hst
      have HSD := Lib.hid hsd
      have HK := Lib.hid hK
      have x := hK.t
      have c0 := x.c0
      have c1 := x.c1
      have c2 := x.c2
      have c3 := x.c3
      have c4 := x.c4
      have c5 := x.c5
      have c6 := x.c6
      have c7 := x.c7
      have c8 := x.c8
      have c9 := x.c9
      have c10 := x.c10
      have c11 := x.c11
      have c12 := x.c12
      clear C hS hst hsd hK x hstep hlen hc hgt hgd hle hlt hj
      go_wp2_with fail
      with_reducible refine HCC.out.mono ?_
      clear HCC c0 c1 c2 c3 c4 c5 c6 c7 c8 c9 c10 c11 c12
      rintro e w5 ⟨rfl, d5⟩
      obtain ⟨v5, K5⟩ := HK.out.did d5
      replace HK := Lib.hid K5
      clear d5 K5
      have y := HK.out.t
      have yf := y.f
      have r0 := y.c0
      have r1 := y.c1
      have r2 := y.c2
      have r3 := y.c3
      have r4 := y.c4
      have r5 := y.c5
      have r6 := y.c6
      have r7 := y.c7
      have r8 := y.c8
      have r9 := y.c9
      have r10 := y.c10
      have r11 := y.c11
      have r12 := y.c12
      clear y
      go_upto_region 10 with (fail)
      change Code.wp _ _ _ _ (setT w5 gt S.t (.slice none 0 0))
      replace HK := Lib.hid (HK.out.putT S.t (.slice none 0 0))
      clear r0 r1 r2 r3 r4 r5 r6 r7 r8 r9 r10 r11 r12 yf
      generalize setT w5 gt S.t (.slice none 0 0) = w6 at *
      have C := refStep (size := (len : Int)) (st := sd) HK.out.d.o HK.out.d.b.size (by have := HLE.out; have := HL.out; omega) none 0 0 ag (t := T) HCU.out HSD.out.1 (by have := HSD.out; have := HJ.out; omega)
      rw [HS.out, show thV T (.slice none 0 0) = .agg #[.int .i64 T.ti, .int .i64 T.pc, .int .i64 T.rc, .int .i64 T.sq, .int .i64 T.wo, .int .i64 T.lk, .int .i64 T.cu, .int .i64 T.pv, .int .i64 T.nt, .int .i64 T.mx, .int .i64 T.ps, .int .i64 T.rn, .slice none 0 0] from rfl] at C
      have HCC := Lib.hid C
      have r0 := HK.out.r.c0
      have r1 := HK.out.r.c1
      have r2 := HK.out.r.c2
      have x := HK.out.y
      have c0 := x.c0
      have c1 := x.c1
      have c2 := x.c2
      have c3 := x.c3
      have c4 := x.c4
      have c5 := x.c5
      have c6 := x.c6
      have c7 := x.c7
      have c8 := x.c8
      have c9 := x.c9
      have c10 := x.c10
      have c11 := x.c11
      have c12 := x.c12
      clear C x
      go_wp2_with fail
      rw [HLE.out]
      rw [HLE.out] at HCC
      with_reducible refine HCC.out.mono ?_
      clear HCC r0 r1 r2 c0 c1 c2 c3 c4 c5 c6 c7 c8 c9 c10 c11 c12
      rintro e w7 ⟨u7, rfl, l7⟩
      rw [show thV S.t (.slice none 0 0) = .agg #[.int .i64 S.t.ti, .int .i64 S.t.pc, .int .i64 S.t.rc, .int .i64 S.t.sq, .int .i64 S.t.wo, .int .i64 S.t.lk, .int .i64 S.t.cu, .int .i64 S.t.pv, .int .i64 S.t.nt, .int .i64 S.t.mx, .int .i64 S.t.ps, .int .i64 S.t.rn, .slice none 0 0] from rfl]
      obtain ⟨a7, c7, eu⟩ := ownShape l7.1
      subst eu
      obtain ⟨m7, hm7⟩ : ∃ m, S.zs.length = m := ⟨_, rfl⟩
      obtain ⟨s7, hs7⟩ : ∃ s, sd + S.c = s := ⟨_, rfl⟩
      obtain ⟨t7, ht7⟩ : ∃ s, st + S.c = s := ⟨_, rfl⟩
      have HS7 := Lib.hid (show 0 ≤ s7 ∧ s7 ≤ 1000 + ((j + 1 : Nat) : Int) by have := HSD.out; have := HSC.out; omega)
      have HT7 := Lib.hid (show 0 ≤ t7 ∧ t7 ≤ 1000 + ((j + 1 : Nat) : Int) by have := HST.out; have := HSC.out; omega)
      have HM7 := Lib.hid (show m7 = len by rw [← hm7, HSL.out, HLE.out])
      rw [hm7] at l7 ⊢
      rw [hs7]
      rw [ht7] at HK
      have HE7 := Lib.hid hm7
      have D7 := HK.out.d.left (by rw [HLE.out]; exact l7)
      have b7 := l7.2.2
      clear l7 hm7 hs7 ht7
      go_upto_region 11 with (fail)
      generalize hW8 : (w7.alloc (.cells #[.int .i64 (len : Int), .slice a7 m7 c7, .int .i64 s7] 39)).alloc (.cells #[.int .i64 S.t.ti, .int .i64 S.t.pc, .int .i64 S.t.rc, .int .i64 S.t.sq, .int .i64 S.t.wo, .int .i64 S.t.lk, .int .i64 S.t.cu, .int .i64 S.t.pv, .int .i64 S.t.nt, .int .i64 S.t.mx, .int .i64 S.t.ps, .int .i64 S.t.rn, .slice none 0 0] 25) = w8
      have f8 : Below w7.heap.size w7 w8 := by subst hW8; exact ((Below.refl _ _).alloc (Nat.le_refl _) _).alloc (by simp) _
      have HN := Lib.hid (show Boxed w8 w7.heap.size (.int .i64 (len : Int)) (.slice a7 m7 c7) (.int .i64 s7) by subst hW8; exact (Boxed.new _ _ _ _).alloc _)
      have HY := Lib.hid (show TX w8 (w7.heap.size + 1) S.t (.slice none 0 0) by
        subst hW8
        have := TX.new (w7.alloc (.cells #[.int .i64 (len : Int), .slice a7 m7 c7, .int .i64 s7] 39)) S.t (.slice none 0 0)
        rw [show (w7.alloc (.cells #[.int .i64 (len : Int), .slice a7 m7 c7, .int .i64 s7] 39)).heap.size = w7.heap.size + 1 by simp] at this
        exact this)
      have f8' := b7.trans (f8.mono b7.size)
      have HNY := Lib.hid (show gu ≠ w7.heap.size + 1 ∧ gr ≠ w7.heap.size by have := HK.out.y.lt; have := HK.out.r.lt; have := b7.size; omega)
      have HD := Lib.hid (D7.fresh f8)
      replace HK := Lib.hid (HK.out.fresh f8')
      clear hW8 f8 f8' b7 D7
      generalize w7.heap.size + 1 = gy at *
      generalize w7.heap.size = gn at *
      have x := HY.out
      have y := HK.out.y
      have yf := y.f
      have c0 := x.c0
      have c1 := x.c1
      have c2 := x.c2
      have c3 := x.c3
      have c4 := x.c4
      have c5 := x.c5
      have c6 := x.c6
      have c7 := x.c7
      have c8 := x.c8
      have c9 := x.c9
      have c10 := x.c10
      have c11 := x.c11
      have c12 := x.c12
      have r0 := y.c0
      have r1 := y.c1
      have r2 := y.c2
      have r3 := y.c3
      have r4 := y.c4
      have r5 := y.c5
      have r6 := y.c6
      have r7 := y.c7
      have r8 := y.c8
      have r9 := y.c9
      have r10 := y.c10
      have r11 := y.c11
      have r12 := y.c12
      clear x y
      go_upto_region 12 with (fail)
      change Code.wp _ _ _ _ (setT w8 gu S.t (.slice none 0 0))
      clear c0 c1 c2 c3 c4 c5 c6 c7 c8 c9 c10 c11 c12 r0 r1 r2 r3 r4 r5 r6 r7 r8 r9 r10 r11 r12 yf
      replace HD := Lib.hid (HD.out.other HK.out.y (by decide) (by decide) (fun k hk => setT_other w8 hk S.t (.slice none 0 0)) (setT_below HK.out.d.b HK.out.lo.2.2 S.t (.slice none 0 0)))
      replace HN := Lib.hid (show Boxed (setT w8 gu S.t (.slice none 0 0)) gn _ _ _ from (setT_other w8 (RN.ne HN.out HK.out.y (by decide)) _ _).trans HN.out)
      replace HK := Lib.hid (HK.out.putU S.t (.slice none 0 0))
      clear HY
      generalize setT w8 gu S.t (.slice none 0 0) = w10 at *
      have n0 := HN.out.c0
      have n1 := HN.out.c1
      have n2 := HN.out.c2
      have r0 := HK.out.r.c0
      have r1 := HK.out.r.c1
      have r2 := HK.out.r.c2
      have rf := HK.out.r.f
      go_upto_region 13 with (fail)
      change Code.wp _ _ _ _ (setM w10 gr (.int .i64 (len : Int)) (.slice a7 m7 c7) (.int .i64 s7))
      clear n0 n1 n2 r0 r1 r2 rf
      replace HK := Lib.hid (HK.out.turn HD.out s7)
      clear HN HD HNY
      generalize setM w10 gr (.int .i64 (len : Int)) (.slice a7 m7 c7) (.int .i64 s7) = w11 at *
      have HRE := Lib.hid (show RE w p gr gt gu (len : Int) v5 a7 m7 c7 S.zs t7 s7 S.t w11 from ⟨HK.out, HE7.out⟩)
      have HDR := Lib.hid (HRE.out.fresh (Below.refl _ _).drew)
      have HC1 := Lib.hid (fun (V : World) (h : RE w p gr gt gu (len : Int) v5 a7 m7 c7 S.zs t7 s7 S.t V) => h.sameE)
      have HC2 := Lib.hid (fun (V : World) (h : RE w p gr gt gu (len : Int) v5 a7 m7 c7 S.zs t7 s7 S.t V) => h.cellsE)
      have HC3 := Lib.hid (fun (V : World) (g : Option Addr) (h : RE w p gr gt gu (len : Int) v5 a7 m7 c7 S.zs t7 s7 S.t V) (r : Reads .i64 V g m7 S.zs) => h.sameC r (by have := HM7.out; have := HL.out; omega))
      have i0 := HRE.out.cells
      have i1' := HDR.out.cells
      have C1 := Lib.hid (HC1.out _ HDR.out)
      clear HK
      go_wp2
      go_region_held3 (fun w' => w'.cell? ⟨gt, 0, none⟩ = some (.int .i64 S.t.ti) ∧ w'.cell? ⟨gt, 1, none⟩ = some (.int .i64 S.t.pc) ∧ w'.cell? ⟨gt, 2, none⟩ = some (.int .i64 S.t.rc) ∧ w'.cell? ⟨gt, 3, none⟩ = some (.int .i64 S.t.sq) ∧ w'.cell? ⟨gt, 4, none⟩ = some (.int .i64 S.t.wo) ∧ w'.cell? ⟨gt, 5, none⟩ = some (.int .i64 S.t.lk) ∧ w'.cell? ⟨gt, 6, none⟩ = some (.int .i64 S.t.cu) ∧ w'.cell? ⟨gt, 7, none⟩ = some (.int .i64 S.t.pv) ∧ w'.cell? ⟨gt, 8, none⟩ = some (.int .i64 S.t.nt) ∧ w'.cell? ⟨gt, 9, none⟩ = some (.int .i64 S.t.mx) ∧ w'.cell? ⟨gt, 10, none⟩ = some (.int .i64 S.t.ps) ∧ w'.cell? ⟨gt, 11, none⟩ = some (.int .i64 S.t.rn) ∧ w'.cell? ⟨gt, 12, none⟩ = some (.slice none 0 0) ∧ w'.cell? ⟨gu, 0, none⟩ = some (.int .i64 S.t.ti) ∧ w'.cell? ⟨gu, 1, none⟩ = some (.int .i64 S.t.pc) ∧ w'.cell? ⟨gu, 2, none⟩ = some (.int .i64 S.t.rc) ∧ w'.cell? ⟨gu, 3, none⟩ = some (.int .i64 S.t.sq) ∧ w'.cell? ⟨gu, 4, none⟩ = some (.int .i64 S.t.wo) ∧ w'.cell? ⟨gu, 5, none⟩ = some (.int .i64 S.t.lk) ∧ w'.cell? ⟨gu, 6, none⟩ = some (.int .i64 S.t.cu) ∧ w'.cell? ⟨gu, 7, none⟩ = some (.int .i64 S.t.pv) ∧ w'.cell? ⟨gu, 8, none⟩ = some (.int .i64 S.t.nt) ∧ w'.cell? ⟨gu, 9, none⟩ = some (.int .i64 S.t.mx) ∧ w'.cell? ⟨gu, 10, none⟩ = some (.int .i64 S.t.ps) ∧ w'.cell? ⟨gu, 11, none⟩ = some (.int .i64 S.t.rn) ∧ w'.cell? ⟨gu, 12, none⟩ = some (.slice none 0 0) ∧ w'.cell? ⟨gr, 1, none⟩ = some (.slice a7 m7 c7)) (first | with_reducible exact i0 | with_reducible exact i1' | with_reducible exact i2 | with_reducible exact i3 | with_reducible exact i4) (first
        | ((with_reducible refine C3.out.mono ?_); rintro e V3 ⟨rfl, s3⟩; have HF := Lib.hid s3; have i4 := HF.out.cells; clear s3)
        | ((with_reducible refine C2.out.mono ?_); rintro e V2 ⟨rfl, r2, s2⟩; have i3 := s2.cells; have C3 := Lib.hid (HC3.out _ _ s2 r2); clear s2 r2)
        | ((with_reducible refine C1.out.mono ?_); rintro e V1 ⟨rfl, s1⟩; have i2 := s1.cells; have C2 := Lib.hid (HC2.out _ s1); clear s1))
      clear i0 i1' i2 i3 i4 C1 C2 C3 HC1 HC2 HC3 HRE HDR
      go_wp2
      go_roundw
      case rel => exact ⟨j + 1, v5, .slice a7 m7 c7, S.zs, t7, s7, S.t, by have := HJ.out; omega, by go_num, HF.out.k, HSG.out.1, HSG.out.2, by rw [HE7.out]; exact HM7.out, HT7.out, HS7.out⟩
      case measure => have := HJ.out; simp [intOf]; omega
    · go_wp2
      go_ret
      exact ⟨rfl, hK.d.b⟩

end Go.Proofs.Ytfnjbbokbdddpaa.M2
