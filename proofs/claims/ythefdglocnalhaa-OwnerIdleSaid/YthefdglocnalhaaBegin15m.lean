/-
  Begin of package owner. Conditions: a batch of at most a million items, that lies in memory; an operation as the program can have it.
-/
import Derived.Test.YthefdglocnalhaaThrG15
namespace Go.Proofs.Ythefdglocnalhaa.M2
open Go.RowKit

set_option maxRecDepth 100000 in
set_option maxHeartbeats 16000000 in
theorem beginO (w : World) (t : Th) (ao : Option Addr) (n cap : Nat) (l : List (Int × Int × Int)) (h : Its w ao n l) (hn : n ≤ 1000000) (hc : ao = none → cap = 0) (k v : Int) (ho : OpOk (k, v)) :
    Calls Try.prog 16 #[thV t (.slice ao n cap), .agg #[.int .u8 k, .int .i32 v]] w (BeginPost w t (wd k v) n l ao) := by
  unfold thV
  have H := Lib.hid h
  have HC := Lib.hid hc
  have HO := Lib.hid ho
  clear h hc ho
  go_enter Try.func16, Try.ntmps16
  go_upto_region 1 with (fail)
  generalize hW : ((w.alloc (.cells #[.int .i64 t.ti, .int .i64 t.pc, .int .i64 t.rc, .int .i64 t.sq, .int .i64 t.wo, .int .i64 t.lk, .int .i64 t.cu, .int .i64 t.pv, .int .i64 t.nt, .int .i64 t.mx, .int .i64 t.ps, .int .i64 t.rn, .slice ao n cap] 25)).alloc (.cells #[.int .u8 k, .int .i32 v] 27)).alloc (.cells #[.int .i64 0, .int .i64 0, .int .i64 0, .int .i64 0, .int .i64 0, .int .i64 0, .int .i64 0, .int .i64 0, .int .i64 0, .int .i64 0, .int .i64 0, .int .i64 0, .slice none 0 0] 25) = W
  have HX := Lib.hid (show TX W w.heap.size t (.slice ao n cap) by subst hW; exact ((TX.new w t _).alloc _).alloc _)
  have HY := Lib.hid (show TX W (w.heap.size + 1 + 1) t0 (.slice none 0 0) by
    subst hW
    have := TX.new ((w.alloc (.cells #[.int .i64 t.ti, .int .i64 t.pc, .int .i64 t.rc, .int .i64 t.sq, .int .i64 t.wo, .int .i64 t.lk, .int .i64 t.cu, .int .i64 t.pv, .int .i64 t.nt, .int .i64 t.mx, .int .i64 t.ps, .int .i64 t.rn, .slice ao n cap] 25)).alloc (.cells #[.int .u8 k, .int .i32 v] 27)) t0 (.slice none 0 0)
    simpa [t0] using this)
  have HOB := Lib.hid (show W.heap[w.heap.size + 1]? = some (.cells #[.int .u8 k, .int .i32 v] 27 (0, 0)) by
    subst hW
    have := heap_alloc_new (w.alloc (.cells #[.int .i64 t.ti, .int .i64 t.pc, .int .i64 t.rc, .int .i64 t.sq, .int .i64 t.wo, .int .i64 t.lk, .int .i64 t.cu, .int .i64 t.pv, .int .i64 t.nt, .int .i64 t.mx, .int .i64 t.ps, .int .i64 t.rn, .slice ao n cap] 25)) (.cells #[.int .u8 k, .int .i32 v] 27)
    refine (Below.heap_alloc _ _ _ (by simp)).trans ?_
    simpa using this)
  have HB := Lib.hid (show Below w.heap.size w W by subst hW; exact (((Below.refl _ _).alloc (Nat.le_refl _) _).alloc (by simp) _).alloc (by simp; omega) _)
  have HWS := Lib.hid (show W.heap.size = w.heap.size + 3 by subst hW; simp)
  have C := apartAny W t ao n cap l (H.out.keep HB.out) hn HC.out
  unfold thV at C
  have x := HX.out
  have c0 := x.c0
  have c1 := x.c1
  have c2 := x.c2
  have c3 := x.c3
  have c4 := x.c4
  have c5 := x.c5
  have c6 := x.c6
  have c7 := x.c7
  have c8 := x.c8
  have c9 := x.c9
  have c10 := x.c10
  have c11 := x.c11
  have c12 := x.c12
  clear hW x
  go_wp2_with fail
  refine C.mono ?_
  clear C c0 c1 c2 c3 c4 c5 c6 c7 c8 c9 c10 c11 c12
  rintro e w2 ⟨ao', cap', rfl, cp⟩
  unfold thV
  have HCP := Lib.hid cp
  have b2 := cp.2.2.1
  have x := HX.out.keep b2
  have xf := x.f
  have c0 := x.c0
  have c1 := x.c1
  have c2 := x.c2
  have c3 := x.c3
  have c4 := x.c4
  have c5 := x.c5
  have c6 := x.c6
  have c7 := x.c7
  have c8 := x.c8
  have c9 := x.c9
  have c10 := x.c10
  have c11 := x.c11
  have c12 := x.c12
  have X2 := Lib.hid x
  have Y2 := Lib.hid (HY.out.keep b2)
  have O2 := Lib.hid ((b2.block _ (by have := HWS.out; omega)).trans HOB.out)
  clear cp x
  go_upto_region 2 with (fail)
  change Code.wp _ _ _ _ (setT w2 w.heap.size t (.slice ao' n cap'))
  clear c0 c1 c2 c3 c4 c5 c6 c7 c8 c9 c10 c11 c12 xf
  have X3 := Lib.hid (X2.out.all t (.slice ao' n cap'))
  have Y3 := Lib.hid (show TX (setT w2 w.heap.size t (.slice ao' n cap')) (w.heap.size + 1 + 1) t0 (.slice none 0 0) from (setT_other w2 (by omega) _ _).trans Y2.out)
  have O3 := Lib.hid ((setT_other w2 (show w.heap.size + 1 ≠ w.heap.size by omega) t (.slice ao' n cap')).trans O2.out)
  have K3 := Lib.hid (show ∀ k, W.heap.size ≤ k → k < w2.heap.size → (setT w2 w.heap.size t (.slice ao' n cap')).heap[k]? = w2.heap[k]? from fun k hk _ => setT_other w2 (by have := HWS.out; omega) _ _)
  have S3 := Lib.hid (setT_size w2 w.heap.size t (.slice ao' n cap'))
  have B3 := Lib.hid (setT_below (HB.out.trans (b2.mono HB.out.size)) (Nat.le_refl _) t (.slice ao' n cap'))
  clear b2
  generalize setT w2 w.heap.size t (.slice ao' n cap') = w3 at *
  have q0 := X3.out.c1
  by_cases hp : t.pc = 0
  · have HT := Lib.hid (bgT_yes (wd k v) hp)
    have HP := Lib.hid hp
    rw [hp] at q0
    have C := wordOp k v HO.out.1.1 HO.out.1.2 HO.out.2.1 HO.out.2.2 w3
    have o0 : w3.cell? ⟨w.heap.size + 1, 0, none⟩ = some (.int .u8 k) := by have := O3.out; simp [World.cell?, this]
    have o1 : w3.cell? ⟨w.heap.size + 1, 1, none⟩ = some (.int .i32 v) := by have := O3.out; simp [World.cell?, this]
    clear hp
    go_wp2_with fail
    refine C.mono ?_
    clear C o0 o1 q0
    rintro e w4 ⟨rfl, f4⟩
    generalize wd k v = wo at *
    have x4 := X3.out.keep f4.below
    have y4 := Y3.out.keep f4.below
    have HF4 := Lib.hid f4.below
    clear f4
    have x5 := x4.s4 wo
    have x6 := x5.s3 (wrap64 (t.sq + 1))
    have x7 := x6.s1 1
    have x8 := x7.s1 2
    have e4 := x4.c4
    have e4f := x4.f
    have e5 := x5.c3
    have e5f := x5.f
    have e6 := x6.c1
    have e6f := x6.f
    have e7 := x7.c2
    have e7b := x7.c1
    have e7f := x7.f
    have X4 := Lib.hid x4
    have Y4 := Lib.hid y4
    have X7 := Lib.hid x7
    have X8 := Lib.hid x8
    clear x4 y4 x5 x6 x7 x8
    by_cases hr : t.rc = 0
    · have HR := Lib.hid (show fk (t.rc == 0) 1 2 = 1 by rw [hr]; rfl)
      rw [hr] at e7
      clear hr
      go_upto_region 9 with (fail)
      change Code.wp _ _ _ _ ((((w4.setCell ⟨w.heap.size, 4, none⟩ (.int .i64 wo)).setCell ⟨w.heap.size, 3, none⟩ (.int .i64 (wrap64 (t.sq + 1)))).setCell ⟨w.heap.size, 1, none⟩ (.int .i64 1)))
      have C5 := Lib.hid X7.out
      generalize hW5 : ((w4.setCell ⟨w.heap.size, 4, none⟩ (.int .i64 wo)).setCell ⟨w.heap.size, 3, none⟩ (.int .i64 (wrap64 (t.sq + 1)))).setCell ⟨w.heap.size, 1, none⟩ (.int .i64 1) = w5
      rw [hW5] at C5
      have Y5 := Lib.hid (show TX w5 (w.heap.size + 1 + 1) t0 (.slice none 0 0) by subst hW5; exact (((Y4.out).other (by simp; omega) _).other (by simp; omega) _).other (by simp; omega) _)
      have B5 := Lib.hid (show Below w.heap.size w w5 by subst hW5; exact ((((B3.out.trans (HF4.out.mono B3.out.size))).setCell (by simp) _).setCell (by simp) _).setCell (by simp) _)
      have K5 := Lib.hid (show ∀ k, W.heap.size ≤ k → k < w2.heap.size → w5.heap[k]? = w2.heap[k]? by
        intro k h1 h2
        subst hW5
        have hk : k ≠ w.heap.size := by have := HWS.out; omega
        refine Eq.trans ?_ ((HF4.out.block k (by rw [S3.out]; exact h2)).trans (K3.out k h1 h2))
        repeat rw [Below.heap_setCell _ _ _ _ (by simpa using hk)])
      have S5 := Lib.hid (show w2.heap.size ≤ w5.heap.size by subst hW5; have := HF4.out.size; rw [S3.out] at this; simpa [World.setCell] using this)
      clear hW5 e4 e4f e5 e5f e6 e6f e7 e7b e7f X7 X8 X4 Y4
      have x := C5.out
      have c0 := x.c0
      have c1 := x.c1
      have c2 := x.c2
      have c3 := x.c3
      have c4 := x.c4
      have c5 := x.c5
      have c6 := x.c6
      have c7 := x.c7
      have c8 := x.c8
      have c9 := x.c9
      have c10 := x.c10
      have c11 := x.c11
      have c12 := x.c12
      have y := Y5.out
      have yf := y.f
      have r0 := y.c0
      have r1 := y.c1
      have r2 := y.c2
      have r3 := y.c3
      have r4 := y.c4
      have r5 := y.c5
      have r6 := y.c6
      have r7 := y.c7
      have r8 := y.c8
      have r9 := y.c9
      have r10 := y.c10
      have r11 := y.c11
      have r12 := y.c12
      have Z := Lib.hid (Y5.out.all { t with wo := wo, sq := wrap64 (t.sq + 1), pc := 1 } (.slice ao' n cap'))
      clear x y
      go_wp2
      change bodyPost _ _ _ _ _ (setT w5 (w.heap.size + 1 + 1) { t with wo := wo, sq := wrap64 (t.sq + 1), pc := 1 } (.slice ao' n cap'))
      have z := Z.out
      refine bodyPost_ret (v := .tuple #[thV { t with wo := wo, sq := wrap64 (t.sq + 1), pc := 1 } (.slice ao' n cap'), .bool true]) (by simp [results, Try.results16, go_sem, thV, z.c0, z.c1, z.c2, z.c3, z.c4, z.c5, z.c6, z.c7, z.c8, z.c9, z.c10, z.c11, z.c12]) rfl ⟨ao', cap', by rw [HT.out, HR.out, HP.out]; rfl, HCP.out.on (Nat.le_trans (Nat.le_add_right _ 3) (Nat.le_of_eq HWS.out.symm)) (fun k h1 h2 => (setT_other _ (by have := HWS.out; omega) _ _).trans (K5.out k h1 h2)) (by rw [setT_size]; exact S5.out) (setT_below B5.out (by omega) _ _)⟩
    · have HR := Lib.hid (show fk (t.rc == 0) 1 2 = 2 by have : (t.rc == 0) = false := by simpa using hr
                                                         rw [this]; rfl)
      have e7c : ¬ t.rc = 0 := hr
      clear hr
      go_upto_region 9 with (fail)
      change Code.wp _ _ _ _ ((((w4.setCell ⟨w.heap.size, 4, none⟩ (.int .i64 wo)).setCell ⟨w.heap.size, 3, none⟩ (.int .i64 (wrap64 (t.sq + 1)))).setCell ⟨w.heap.size, 1, none⟩ (.int .i64 1)).setCell ⟨w.heap.size, 1, none⟩ (.int .i64 2))
      have C5 := Lib.hid X8.out
      generalize hW5 : (((w4.setCell ⟨w.heap.size, 4, none⟩ (.int .i64 wo)).setCell ⟨w.heap.size, 3, none⟩ (.int .i64 (wrap64 (t.sq + 1)))).setCell ⟨w.heap.size, 1, none⟩ (.int .i64 1)).setCell ⟨w.heap.size, 1, none⟩ (.int .i64 2) = w5
      rw [hW5] at C5
      have Y5 := Lib.hid (show TX w5 (w.heap.size + 1 + 1) t0 (.slice none 0 0) by subst hW5; exact ((((Y4.out).other (by simp; omega) _).other (by simp; omega) _).other (by simp; omega) _).other (by simp; omega) _)
      have B5 := Lib.hid (show Below w.heap.size w w5 by subst hW5; exact (((((B3.out.trans (HF4.out.mono B3.out.size))).setCell (by simp) _).setCell (by simp) _).setCell (by simp) _).setCell (by simp) _)
      have K5 := Lib.hid (show ∀ k, W.heap.size ≤ k → k < w2.heap.size → w5.heap[k]? = w2.heap[k]? by
        intro k h1 h2
        subst hW5
        have hk : k ≠ w.heap.size := by have := HWS.out; omega
        refine Eq.trans ?_ ((HF4.out.block k (by rw [S3.out]; exact h2)).trans (K3.out k h1 h2))
        repeat rw [Below.heap_setCell _ _ _ _ (by simpa using hk)])
      have S5 := Lib.hid (show w2.heap.size ≤ w5.heap.size by subst hW5; have := HF4.out.size; rw [S3.out] at this; simpa [World.setCell] using this)
      clear hW5 e4 e4f e5 e5f e6 e6f e7 e7b e7f X7 X8 X4 Y4
      have x := C5.out
      have c0 := x.c0
      have c1 := x.c1
      have c2 := x.c2
      have c3 := x.c3
      have c4 := x.c4
      have c5 := x.c5
      have c6 := x.c6
      have c7 := x.c7
      have c8 := x.c8
      have c9 := x.c9
      have c10 := x.c10
      have c11 := x.c11
      have c12 := x.c12
      have y := Y5.out
      have yf := y.f
      have r0 := y.c0
      have r1 := y.c1
      have r2 := y.c2
      have r3 := y.c3
      have r4 := y.c4
      have r5 := y.c5
      have r6 := y.c6
      have r7 := y.c7
      have r8 := y.c8
      have r9 := y.c9
      have r10 := y.c10
      have r11 := y.c11
      have r12 := y.c12
      have Z := Lib.hid (Y5.out.all { t with wo := wo, sq := wrap64 (t.sq + 1), pc := 2 } (.slice ao' n cap'))
      clear x y
      go_wp2
      change bodyPost _ _ _ _ _ (setT w5 (w.heap.size + 1 + 1) { t with wo := wo, sq := wrap64 (t.sq + 1), pc := 2 } (.slice ao' n cap'))
      have z := Z.out
      refine bodyPost_ret (v := .tuple #[thV { t with wo := wo, sq := wrap64 (t.sq + 1), pc := 2 } (.slice ao' n cap'), .bool true]) (by simp [results, Try.results16, go_sem, thV, z.c0, z.c1, z.c2, z.c3, z.c4, z.c5, z.c6, z.c7, z.c8, z.c9, z.c10, z.c11, z.c12]) rfl ⟨ao', cap', by rw [HT.out, HR.out, HP.out]; rfl, HCP.out.on (Nat.le_trans (Nat.le_add_right _ 3) (Nat.le_of_eq HWS.out.symm)) (fun k h1 h2 => (setT_other _ (by have := HWS.out; omega) _ _).trans (K5.out k h1 h2)) (by rw [setT_size]; exact S5.out) (setT_below B5.out (by omega) _ _)⟩
  · have HT := Lib.hid (bgT_no (wd k v) hp)
    have HP := Lib.hid (show (t.pc == 0) = false by simpa using hp)
    obtain ⟨yy, hyy⟩ : ∃ yy, t.pc = yy := ⟨_, rfl⟩
    rw [hyy] at q0 hp
    have HYY := Lib.hid hyy
    clear hyy
    go_upto_region 3 with (fail)
    rw [← HYY.out]
    clear hp q0
    have x := X3.out
    have c0 := x.c0
    have c1 := x.c1
    have c2 := x.c2
    have c3 := x.c3
    have c4 := x.c4
    have c5 := x.c5
    have c6 := x.c6
    have c7 := x.c7
    have c8 := x.c8
    have c9 := x.c9
    have c10 := x.c10
    have c11 := x.c11
    have c12 := x.c12
    have y := Y3.out
    have yf := y.f
    have r0 := y.c0
    have r1 := y.c1
    have r2 := y.c2
    have r3 := y.c3
    have r4 := y.c4
    have r5 := y.c5
    have r6 := y.c6
    have r7 := y.c7
    have r8 := y.c8
    have r9 := y.c9
    have r10 := y.c10
    have r11 := y.c11
    have r12 := y.c12
    have Z := Lib.hid (Y3.out.all t (.slice ao' n cap'))
    clear x y
    go_wp2
    change bodyPost _ _ _ _ _ (setT w3 (w.heap.size + 1 + 1) t (.slice ao' n cap'))
    have z := Z.out
    refine bodyPost_ret (v := .tuple #[thV t (.slice ao' n cap'), .bool false]) (by simp [results, Try.results16, go_sem, thV, z.c0, z.c1, z.c2, z.c3, z.c4, z.c5, z.c6, z.c7, z.c8, z.c9, z.c10, z.c11, z.c12]) rfl ⟨ao', cap', by rw [HT.out, HP.out], HCP.out.on (Nat.le_trans (Nat.le_add_right _ 3) (Nat.le_of_eq HWS.out.symm)) (fun k h1 h2 => (setT_other _ (by have := HWS.out; omega) _ _).trans (K3.out k h1 h2)) (by rw [setT_size, S3.out]; exact Nat.le_refl _) (setT_below B3.out (by omega) _ _)⟩

end Go.Proofs.Ythefdglocnalhaa.M2
