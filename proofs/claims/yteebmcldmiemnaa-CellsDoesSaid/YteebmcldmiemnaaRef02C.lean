/-
  What Load, At, Store and Swap of the document's memory tell. Conditions: at most 1000 cells, steps below a million.
-/
import Derived.Test.YteebmcldmiemnaaRef02B
namespace Go.Proofs.Yteebmcldmiemnaa
open Go.RowKit

section
variable {w : World} {B : Nat} {u : Value} {size : Int} {zs : List Int} {st : Int}

set_option maxHeartbeats 1600000 in
theorem refLoadOut (h : w.ownsRow B 2 1 u zs.length (zs.map (Value.int .i64))) (_ : B ≤ w.heap.size) (a : Int) (h0 : a < 0 ∨ zs.length ≤ a) :
    Calls Try.prog 31 #[.agg #[.int .i64 size, u, .int .i64 st], .int .i64 a] w fun e w' => ∃ u', e = .returned (.tuple #[.agg #[.int .i64 size, u', .int .i64 st], .int .i64 0, .int .i64 10]) ∧ Left w B u zs u' w' := by
  obtain ⟨ao, cap, rfl⟩ := ownShape h
  go_enter Try.func31, Try.ntmps31
  go_wp2_with fail
  generalize hW : (w.alloc (.cells #[.int .i64 size, .slice ao zs.length cap, .int .i64 st] 49)).alloc (.cells #[.int .i64 0, .slice none 0 0, .int .i64 0] 49) = W
  obtain ⟨X0, X1, hb0⟩ := begun w _ _ _ W hW
  clear hW
  refine (hasOut ao zs.length cap size st a W h0).mono ?_
  rintro e w1 ⟨rfl, b1⟩
  have HY0 := Lib.hid (X0.keep b1)
  have HY1 := Lib.hid (X1.keep b1)
  have HB1 := Lib.hid (hb0.trans (b1.mono hb0.size))
  have HO1 := Lib.hid (own_keep (own_keep h hb0) b1)
  clear X0 X1 b1 h
  have d0 := HY0.out.c0
  have d1 := HY0.out.c1
  have d2 := HY0.out.c2
  have df := HY0.out.f
  have e0 := HY1.out.c0
  have e1 := HY1.out.c1
  have e2 := HY1.out.c2
  have ef := HY1.out.f
  clear h0 hb0
  go_wp2
  have Z := ((HY1.out.set0 (.int .i64 size)).set1 (.slice ao zs.length cap)).set2 (.int .i64 st)
  have n1 := own_ne_boxed HO1.out HY1.out
  refine bodyPost_ret (v := .tuple #[.agg #[.int .i64 size, (.slice ao zs.length cap), .int .i64 st], .int .i64 0, .int .i64 10]) (by simp [results, Try.results31, go_sem, Z.c0, Z.c1, Z.c2]) rfl ⟨_, rfl, ?_, Later.refl _ _, ?_⟩
  · exact ownsRow_setCell_other (ownsRow_setCell_other (ownsRow_setCell_other HO1.out n1 _) n1 _) n1 _
  · exact ((HB1.out.setCell (by simp) _).setCell (by simp) _).setCell (by simp) _

set_option maxHeartbeats 1600000 in
theorem refStoreOut (h : w.ownsRow B 2 1 u zs.length (zs.map (Value.int .i64))) (_ : B ≤ w.heap.size) (a x : Int) (h0 : a < 0 ∨ zs.length ≤ a) :
    Calls Try.prog 32 #[.agg #[.int .i64 size, u, .int .i64 st], .int .i64 a, .int .i64 x] w fun e w' => ∃ u', e = .returned (.tuple #[.agg #[.int .i64 size, u', .int .i64 st], .int .i64 10]) ∧ Left w B u zs u' w' := by
  obtain ⟨ao, cap, rfl⟩ := ownShape h
  go_enter Try.func32, Try.ntmps32
  go_wp2_with fail
  generalize hW : (w.alloc (.cells #[.int .i64 size, .slice ao zs.length cap, .int .i64 st] 49)).alloc (.cells #[.int .i64 0, .slice none 0 0, .int .i64 0] 49) = W
  obtain ⟨X0, X1, hb0⟩ := begun w _ _ _ W hW
  clear hW
  refine (hasOut ao zs.length cap size st a W h0).mono ?_
  rintro e w1 ⟨rfl, b1⟩
  have HY0 := Lib.hid (X0.keep b1)
  have HY1 := Lib.hid (X1.keep b1)
  have HB1 := Lib.hid (hb0.trans (b1.mono hb0.size))
  have HO1 := Lib.hid (own_keep (own_keep h hb0) b1)
  clear X0 X1 b1 h
  have d0 := HY0.out.c0
  have d1 := HY0.out.c1
  have d2 := HY0.out.c2
  have df := HY0.out.f
  have e0 := HY1.out.c0
  have e1 := HY1.out.c1
  have e2 := HY1.out.c2
  have ef := HY1.out.f
  clear h0 hb0
  go_wp2
  have Z := ((HY1.out.set0 (.int .i64 size)).set1 (.slice ao zs.length cap)).set2 (.int .i64 st)
  have n1 := own_ne_boxed HO1.out HY1.out
  refine bodyPost_ret (v := .tuple #[.agg #[.int .i64 size, (.slice ao zs.length cap), .int .i64 st], .int .i64 10]) (by simp [results, Try.results32, go_sem, Z.c0, Z.c1, Z.c2]) rfl ⟨_, rfl, ?_, Later.refl _ _, ?_⟩
  · exact ownsRow_setCell_other (ownsRow_setCell_other (ownsRow_setCell_other HO1.out n1 _) n1 _) n1 _
  · exact ((HB1.out.setCell (by simp) _).setCell (by simp) _).setCell (by simp) _

set_option maxHeartbeats 1600000 in
theorem refSwapOut (h : w.ownsRow B 2 1 u zs.length (zs.map (Value.int .i64))) (_ : B ≤ w.heap.size) (a old x : Int) (h0 : a < 0 ∨ zs.length ≤ a) :
    Calls Try.prog 34 #[.agg #[.int .i64 size, u, .int .i64 st], .int .i64 a, .int .i64 old, .int .i64 x] w fun e w' => ∃ u', e = .returned (.tuple #[.agg #[.int .i64 size, u', .int .i64 st], .bool false, .int .i64 10]) ∧ Left w B u zs u' w' := by
  obtain ⟨ao, cap, rfl⟩ := ownShape h
  go_enter Try.func34, Try.ntmps34
  go_wp2_with fail
  generalize hW : (w.alloc (.cells #[.int .i64 size, .slice ao zs.length cap, .int .i64 st] 49)).alloc (.cells #[.int .i64 0, .slice none 0 0, .int .i64 0] 49) = W
  obtain ⟨X0, X1, hb0⟩ := begun w _ _ _ W hW
  clear hW
  refine (hasOut ao zs.length cap size st a W h0).mono ?_
  rintro e w1 ⟨rfl, b1⟩
  have HY0 := Lib.hid (X0.keep b1)
  have HY1 := Lib.hid (X1.keep b1)
  have HB1 := Lib.hid (hb0.trans (b1.mono hb0.size))
  have HO1 := Lib.hid (own_keep (own_keep h hb0) b1)
  clear X0 X1 b1 h
  have d0 := HY0.out.c0
  have d1 := HY0.out.c1
  have d2 := HY0.out.c2
  have df := HY0.out.f
  have e0 := HY1.out.c0
  have e1 := HY1.out.c1
  have e2 := HY1.out.c2
  have ef := HY1.out.f
  clear h0 hb0
  go_wp2
  have Z := ((HY1.out.set0 (.int .i64 size)).set1 (.slice ao zs.length cap)).set2 (.int .i64 st)
  have n1 := own_ne_boxed HO1.out HY1.out
  refine bodyPost_ret (v := .tuple #[.agg #[.int .i64 size, (.slice ao zs.length cap), .int .i64 st], .bool false, .int .i64 10]) (by simp [results, Try.results34, go_sem, Z.c0, Z.c1, Z.c2]) rfl ⟨_, rfl, ?_, Later.refl _ _, ?_⟩
  · exact ownsRow_setCell_other (ownsRow_setCell_other (ownsRow_setCell_other HO1.out n1 _) n1 _) n1 _
  · exact ((HB1.out.setCell (by simp) _).setCell (by simp) _).setCell (by simp) _

set_option maxHeartbeats 1600000 in
theorem refAtIn (h : w.ownsRow B 2 1 u zs.length (zs.map (Value.int .i64))) (a : Int) (h0 : 0 ≤ a) (h1 : a < zs.length) :
    Calls Try.prog 33 #[.agg #[.int .i64 size, u, .int .i64 st], .int .i64 a] w fun e w' => e = .returned (.int .i64 (zs.getD a.toNat 0)) ∧ Below w.heap.size w w' := by
  obtain ⟨g, cap, rfl, hgl⟩ := own_row h (by omega)
  obtain ⟨y, hy⟩ : ∃ y, zs.getD a.toNat 0 = y := ⟨_, rfl⟩
  rw [hy]
  go_enter Try.func33, Try.ntmps33
  go_wp2_with fail
  generalize hW : w.alloc (.cells #[.int .i64 size, .slice (some ⟨g, 0, none⟩) zs.length cap, .int .i64 st] 49) = W
  have X0 : Boxed W w.heap.size (.int .i64 size) (.slice (some ⟨g, 0, none⟩) zs.length cap) (.int .i64 st) := by subst hW; exact Boxed.new _ _ _ _
  have hb0 : Below w.heap.size w W := by subst hW; exact (Below.refl _ _).alloc (Nat.le_refl _) _
  clear hW
  refine (hasIn (some ⟨g, 0, none⟩) zs.length cap size st a W h0 h1).mono ?_
  rintro e w1 ⟨rfl, b1⟩
  have HY0 := Lib.hid (X0.keep b1)
  have HB1 := Lib.hid (hb0.trans (b1.mono hb0.size))
  obtain ⟨cc, _⟩ := own_cell (own_keep (own_keep h hb0) b1) h0 h1
  rw [hy] at cc
  have HYY := Lib.hid hy
  clear hy
  clear X0 b1 h hb0
  have d1 := HY0.out.c1
  go_wp2
  go_ret
  exact ⟨rfl, HB1.out⟩

set_option maxHeartbeats 1600000 in
theorem refAtOut (h : w.ownsRow B 2 1 u zs.length (zs.map (Value.int .i64))) (a : Int) (h0 : a < 0 ∨ zs.length ≤ a) :
    Calls Try.prog 33 #[.agg #[.int .i64 size, u, .int .i64 st], .int .i64 a] w fun e w' => e = .returned (.int .i64 (0)) ∧ Below w.heap.size w w' := by
  obtain ⟨ao, cap, rfl⟩ := ownShape h
  go_enter Try.func33, Try.ntmps33
  go_wp2_with fail
  generalize hW : w.alloc (.cells #[.int .i64 size, .slice ao zs.length cap, .int .i64 st] 49) = W
  have X0 : Boxed W w.heap.size (.int .i64 size) (.slice ao zs.length cap) (.int .i64 st) := by subst hW; exact Boxed.new _ _ _ _
  have hb0 : Below w.heap.size w W := by subst hW; exact (Below.refl _ _).alloc (Nat.le_refl _) _
  clear hW
  refine (hasOut ao zs.length cap size st a W h0).mono ?_
  rintro e w1 ⟨rfl, b1⟩
  have HY0 := Lib.hid (X0.keep b1)
  have HB1 := Lib.hid (hb0.trans (b1.mono hb0.size))
  clear h0
  clear X0 b1 h hb0
  have d1 := HY0.out.c1
  go_wp2
  go_ret
  exact ⟨rfl, HB1.out⟩

set_option maxHeartbeats 1600000 in
theorem refLoadIn (h : w.ownsRow B 2 1 u zs.length (zs.map (Value.int .i64))) (_ : B ≤ w.heap.size) (a : Int) (h0 : 0 ≤ a) (h1 : a < zs.length) (k0 : 0 ≤ st) (k1 : st < 1000000) :
    Calls Try.prog 31 #[.agg #[.int .i64 size, u, .int .i64 st], .int .i64 a] w fun e w' => ∃ u', e = .returned (.tuple #[.agg #[.int .i64 size, u', .int .i64 (st + 1)], .int .i64 (zs.getD a.toNat 0), .int .i64 0]) ∧ Left w B u zs u' w' := by
  obtain ⟨g, cap, rfl, hgl⟩ := own_row h (by omega)
  obtain ⟨y, hy⟩ : ∃ y, zs.getD a.toNat 0 = y := ⟨_, rfl⟩
  rw [hy]
  go_enter Try.func31, Try.ntmps31
  go_wp2_with fail
  generalize hW : (w.alloc (.cells #[.int .i64 size, .slice (some ⟨g, 0, none⟩) zs.length cap, .int .i64 st] 49)).alloc (.cells #[.int .i64 0, .slice none 0 0, .int .i64 0] 49) = W
  obtain ⟨X0, X1, hb0⟩ := begun w _ _ _ W hW
  clear hW
  refine (hasIn (some ⟨g, 0, none⟩) zs.length cap size st a W h0 h1).mono ?_
  rintro e w1 ⟨rfl, b1⟩
  have HY0 := Lib.hid (X0.keep b1)
  have HY1 := Lib.hid (X1.keep b1)
  have HB1 := Lib.hid (hb0.trans (b1.mono hb0.size))
  have HO1 := Lib.hid (own_keep (own_keep h hb0) b1)
  clear X0 X1 b1 h
  have d0 := HY0.out.c0
  have d1 := HY0.out.c1
  have d2 := HY0.out.c2
  have df := HY0.out.f
  have e0 := HY1.out.c0
  have e1 := HY1.out.c1
  have e2 := HY1.out.c2
  have ef := HY1.out.f
  clear hb0
  go_wp2
  generalize hW3 : w1.setCell ⟨w.heap.size, 2, none⟩ (.int .i64 (st + 1)) = W3
  have n0 := own_ne_boxed HO1.out HY0.out
  have HZ0 := Lib.hid (show Boxed W3 w.heap.size (.int .i64 size) (.slice (some ⟨g, 0, none⟩) zs.length cap) (.int .i64 (st + 1)) by subst hW3; exact HY0.out.set2 _)
  have HZ1 := Lib.hid (show Boxed W3 (w.heap.size + 1) (.int .i64 0) (.slice none 0 0) (.int .i64 0) by subst hW3; exact HY1.out.other (by simp) _)
  have HO3 := Lib.hid (show W3.ownsRow B 2 1 (.slice (some ⟨g, 0, none⟩) zs.length cap) zs.length (zs.map (Value.int .i64)) by subst hW3; exact ownsRow_setCell_other HO1.out n0 _)
  have HB3 := Lib.hid (show Below w.heap.size w W3 by subst hW3; exact HB1.out.setCell (Nat.le_refl _) _)
  clear hW3 n0 HY0 HY1 HO1 HB1 d0 d1 d2 df e0 e1 e2 ef
  have d0 := HZ0.out.c0
  have d1 := HZ0.out.c1
  have d2 := HZ0.out.c2
  have df := HZ0.out.f
  have e0 := HZ1.out.c0
  have e1 := HZ1.out.c1
  have e2 := HZ1.out.c2
  have ef := HZ1.out.f
  obtain ⟨cc, _⟩ := own_cell HO3.out h0 h1
  rw [hy] at cc
  have HYY := Lib.hid hy
  clear hy
  go_region
  all_goals go_wp2
  all_goals
    have Z := ((HZ1.out.set0 (.int .i64 size)).set1 (.slice (some ⟨g, 0, none⟩) zs.length cap)).set2 (.int .i64 (st + 1))
    have n1 := own_ne_boxed HO3.out HZ1.out
    refine bodyPost_ret (v := .tuple #[.agg #[.int .i64 size, .slice (some ⟨g, 0, none⟩) zs.length cap, .int .i64 (st + 1)], .int .i64 y, .int .i64 0]) (by simp [results, Try.results31, go_sem, Z.c0, Z.c1, Z.c2]) rfl ⟨_, rfl, ?_, Later.refl _ _, ?_⟩
    · exact ownsRow_setCell_other (ownsRow_setCell_other (ownsRow_setCell_other (w := W3.drew) HO3.out n1 _) n1 _) n1 _
    · exact ((HB3.out.drew.setCell (by simp) _).setCell (by simp) _).setCell (by simp) _

set_option maxHeartbeats 1600000 in
theorem refStoreIn (h : w.ownsRow B 2 1 u zs.length (zs.map (Value.int .i64))) (hB : B ≤ w.heap.size) (a x : Int) (h0 : 0 ≤ a) (h1 : a < zs.length) (hl : zs.length ≤ 1000) (k0 : 0 ≤ st) (k1 : st < 1000000) :
    Calls Try.prog 32 #[.agg #[.int .i64 size, u, .int .i64 st], .int .i64 a, .int .i64 x] w fun e w' => ∃ u', e = .returned (.tuple #[.agg #[.int .i64 size, u', .int .i64 (st + 1)], .int .i64 0]) ∧ Left w B u (zs.set a.toNat x) u' w' := by
  obtain ⟨g, cap, rfl, hgl⟩ := own_row h (by omega)
  go_enter Try.func32, Try.ntmps32
  go_wp2_with fail
  generalize hW : (w.alloc (.cells #[.int .i64 size, .slice (some ⟨g, 0, none⟩) zs.length cap, .int .i64 st] 49)).alloc (.cells #[.int .i64 0, .slice none 0 0, .int .i64 0] 49) = W
  obtain ⟨X0, X1, hb0⟩ := begun w _ _ _ W hW
  clear hW
  refine (hasIn (some ⟨g, 0, none⟩) zs.length cap size st a W h0 h1).mono ?_
  rintro e w1 ⟨rfl, b1⟩
  have HY0 := Lib.hid (X0.keep b1)
  have HY1 := Lib.hid (X1.keep b1)
  have HB1 := Lib.hid (hb0.trans (b1.mono hb0.size))
  have HO1 := Lib.hid (own_keep (own_keep h hb0) b1)
  clear X0 X1 b1 h
  have d0 := HY0.out.c0
  have d1 := HY0.out.c1
  have d2 := HY0.out.c2
  have df := HY0.out.f
  have e0 := HY1.out.c0
  have e1 := HY1.out.c1
  have e2 := HY1.out.c2
  have ef := HY1.out.f
  clear hb0
  go_wp2_with fail
  refine (freshAny size st HO1.out hl).mono ?_
  rintro e w2 ⟨u2, rfl, ho2, b2⟩
  obtain ⟨g2, cap2, rfl, hg2⟩ := own_row ho2 (by omega)
  have hN := Nat.lt_of_lt_of_le HY1.out.lt b2.size
  have HX1 := Lib.hid (HY1.out.keep b2)
  have HB2 := Lib.hid (HB1.out.trans (b2.mono HB1.out.size))
  have HO2 := Lib.hid ho2
  have HZ1 := Lib.hid HB1.out.size
  clear b2 ho2 HY0 HY1 HO1 HB1 d0 d1 d2 df e0 e1 e2 ef
  have hN1 : ¬ w2.heap.size = w.heap.size + 1 := by omega
  have hN2 : ¬ w.heap.size + 1 = w2.heap.size := by omega
  go_upto_region 4 with (fail)
  generalize hW3 : w2.alloc (.cells #[.int .i64 size, .slice (some ⟨g2, 0, none⟩) zs.length cap2, .int .i64 st] 49) = W3
  have HX3 := Lib.hid (show Boxed W3 w2.heap.size (.int .i64 size) (.slice (some ⟨g2, 0, none⟩) zs.length cap2) (.int .i64 st) by subst hW3; exact Boxed.new _ _ _ _)
  have HX1' := Lib.hid (show Boxed W3 (w.heap.size + 1) (.int .i64 0) (.slice none 0 0) (.int .i64 0) by subst hW3; exact HX1.out.alloc _)
  have HB3 := Lib.hid (show Below w.heap.size w W3 by subst hW3; exact HB2.out.alloc HB2.out.size _)
  have HO3 := Lib.hid (show W3.ownsRow w1.heap.size 2 1 (.slice (some ⟨g2, 0, none⟩) zs.length cap2) zs.length (zs.map (Value.int .i64)) by subst hW3; exact HO2.out.alloc _)
  clear hW3 HX1 HO2 HB2
  have g3 := own_ne_boxed HO3.out HX3.out
  have g1 := own_ne_boxed HO3.out HX1'.out
  simp only [Value.ownBlock, ne_eq, Option.some.injEq] at g3 g1
  have g3' : ¬ w2.heap.size = g2 := fun e => g3 e.symm
  have g1' : ¬ w.heap.size + 1 = g2 := fun e => g1 e.symm
  have d0 := HX3.out.c0
  have d1 := HX3.out.c1
  have d2 := HX3.out.c2
  have df := HX3.out.f
  have e0 := HX1'.out.c0
  have e1 := HX1'.out.c1
  have e2 := HX1'.out.c2
  have ef := HX1'.out.f
  obtain ⟨cc, cf⟩ := own_cell HO3.out h0 h1
  have hg2b : w.heap.size ≤ g2 := Nat.le_trans HZ1.out (HO3.out.lt g2 rfl).1
  go_wp2
  have Z := (((((HX1'.out.other (q := ⟨g2, a.toNat, none⟩) (by simpa using g1) (.int .i64 x)).other (q := ⟨w2.heap.size, 2, none⟩) (by simp; omega) (.int .i64 (st + 1))).set0 (.int .i64 size)).set1 (.slice (some ⟨g2, 0, none⟩) zs.length cap2)).set2 (.int .i64 (st + 1)))
  have O := own_le (ownsRow_setCell_other (a := ⟨w.heap.size + 1, 2, none⟩) (ownsRow_setCell_other (a := ⟨w.heap.size + 1, 1, none⟩) (ownsRow_setCell_other (a := ⟨w.heap.size + 1, 0, none⟩) (ownsRow_setCell_other (a := ⟨w2.heap.size, 2, none⟩) (HO3.out.stored a.toNat (.int .i64 x)).1 (by simpa [Value.ownBlock] using g3) (.int .i64 (st + 1))) (by simpa [Value.ownBlock] using g1) (.int .i64 size)) (by simpa [Value.ownBlock] using g1) (.slice (some ⟨g2, 0, none⟩) zs.length cap2)) (by simpa [Value.ownBlock] using g1) (.int .i64 (st + 1))) (Nat.le_trans hB HZ1.out)
  refine bodyPost_ret (v := .tuple #[.agg #[.int .i64 size, .slice (some ⟨g2, 0, none⟩) zs.length cap2, .int .i64 (st + 1)], .int .i64 0]) (by simp [results, Try.results32, go_sem, Z.c0, Z.c1, Z.c2]) rfl ⟨_, rfl, ?_, ?_, ?_⟩
  · simpa [List.map_set] using O
  · exact fun g hg => .inr (by simp only [Value.ownBlock, Option.some.injEq] at hg; omega)
  · exact (((((HB3.out.setCell (p := ⟨g2, a.toNat, none⟩) hg2b _).setCell (p := ⟨w2.heap.size, 2, none⟩) (by simp; omega) _).setCell (p := ⟨w.heap.size + 1, 0, none⟩) (by simp) _).setCell (p := ⟨w.heap.size + 1, 1, none⟩) (by simp) _).setCell (p := ⟨w.heap.size + 1, 2, none⟩) (by simp) _)

set_option maxHeartbeats 1600000 in
theorem refSwapIn (h : w.ownsRow B 2 1 u zs.length (zs.map (Value.int .i64))) (hB : B ≤ w.heap.size) (a old x : Int) (h0 : 0 ≤ a) (h1 : a < zs.length) (ho : zs.getD a.toNat 0 = old) (hl : zs.length ≤ 1000) (k0 : 0 ≤ st) (k1 : st < 1000000) :
    Calls Try.prog 34 #[.agg #[.int .i64 size, u, .int .i64 st], .int .i64 a, .int .i64 old, .int .i64 x] w fun e w' => ∃ u', e = .returned (.tuple #[.agg #[.int .i64 size, u', .int .i64 (st + 1)], .bool true, .int .i64 0]) ∧ Left w B u (zs.set a.toNat x) u' w' := by
  obtain ⟨g, cap, rfl, hgl⟩ := own_row h (by omega)
  go_enter Try.func34, Try.ntmps34
  go_wp2_with fail
  generalize hW : (w.alloc (.cells #[.int .i64 size, .slice (some ⟨g, 0, none⟩) zs.length cap, .int .i64 st] 49)).alloc (.cells #[.int .i64 0, .slice none 0 0, .int .i64 0] 49) = W
  obtain ⟨X0, X1, hb0⟩ := begun w _ _ _ W hW
  clear hW
  refine (hasIn (some ⟨g, 0, none⟩) zs.length cap size st a W h0 h1).mono ?_
  rintro e w1 ⟨rfl, b1⟩
  have HY0 := Lib.hid (X0.keep b1)
  have HY1 := Lib.hid (X1.keep b1)
  have HB1 := Lib.hid (hb0.trans (b1.mono hb0.size))
  have HO1 := Lib.hid (own_keep (own_keep h hb0) b1)
  clear X0 X1 b1 h
  have d0 := HY0.out.c0
  have d1 := HY0.out.c1
  have d2 := HY0.out.c2
  have df := HY0.out.f
  have e0 := HY1.out.c0
  have e1 := HY1.out.c1
  have e2 := HY1.out.c2
  have ef := HY1.out.f
  clear hb0
  go_wp2_with fail
  refine (freshAny size st HO1.out hl).mono ?_
  rintro e w2 ⟨u2, rfl, ho2, b2⟩
  obtain ⟨g2, cap2, rfl, hg2⟩ := own_row ho2 (by omega)
  have hN := Nat.lt_of_lt_of_le HY1.out.lt b2.size
  have HX1 := Lib.hid (HY1.out.keep b2)
  have HB2 := Lib.hid (HB1.out.trans (b2.mono HB1.out.size))
  have HO2 := Lib.hid ho2
  have HZ1 := Lib.hid HB1.out.size
  clear b2 ho2 HY0 HY1 HO1 HB1 d0 d1 d2 df e0 e1 e2 ef
  have hN1 : ¬ w2.heap.size = w.heap.size + 1 := by omega
  have hN2 : ¬ w.heap.size + 1 = w2.heap.size := by omega
  go_upto_region 4 with (fail)
  generalize hW3 : w2.alloc (.cells #[.int .i64 size, .slice (some ⟨g2, 0, none⟩) zs.length cap2, .int .i64 st] 49) = W3
  have HX3 := Lib.hid (show Boxed W3 w2.heap.size (.int .i64 size) (.slice (some ⟨g2, 0, none⟩) zs.length cap2) (.int .i64 st) by subst hW3; exact Boxed.new _ _ _ _)
  have HX1' := Lib.hid (show Boxed W3 (w.heap.size + 1) (.int .i64 0) (.slice none 0 0) (.int .i64 0) by subst hW3; exact HX1.out.alloc _)
  have HB3 := Lib.hid (show Below w.heap.size w W3 by subst hW3; exact HB2.out.alloc HB2.out.size _)
  have HO3 := Lib.hid (show W3.ownsRow w1.heap.size 2 1 (.slice (some ⟨g2, 0, none⟩) zs.length cap2) zs.length (zs.map (Value.int .i64)) by subst hW3; exact HO2.out.alloc _)
  clear hW3 HX1 HO2 HB2
  have g3 := own_ne_boxed HO3.out HX3.out
  have g1 := own_ne_boxed HO3.out HX1'.out
  simp only [Value.ownBlock, ne_eq, Option.some.injEq] at g3 g1
  have g3' : ¬ w2.heap.size = g2 := fun e => g3 e.symm
  have g1' : ¬ w.heap.size + 1 = g2 := fun e => g1 e.symm
  have d0 := HX3.out.c0
  have d1 := HX3.out.c1
  have d2 := HX3.out.c2
  have df := HX3.out.f
  have e0 := HX1'.out.c0
  have e1 := HX1'.out.c1
  have e2 := HX1'.out.c2
  have ef := HX1'.out.f
  obtain ⟨cc, cf⟩ := own_cell HO3.out h0 h1
  rw [ho] at cc
  clear ho
  have hg2b : w.heap.size ≤ g2 := Nat.le_trans HZ1.out (HO3.out.lt g2 rfl).1
  go_wp2
  have Z := (((((HX1'.out.other (q := ⟨w2.heap.size, 2, none⟩) (by simp; omega) (.int .i64 (st + 1))).other (q := ⟨g2, a.toNat, none⟩) (by simpa using g1) (.int .i64 x)).set0 (.int .i64 size)).set1 (.slice (some ⟨g2, 0, none⟩) zs.length cap2)).set2 (.int .i64 (st + 1)))
  have O := own_le (ownsRow_setCell_other (a := ⟨w.heap.size + 1, 2, none⟩) (ownsRow_setCell_other (a := ⟨w.heap.size + 1, 1, none⟩) (ownsRow_setCell_other (a := ⟨w.heap.size + 1, 0, none⟩) ((ownsRow_setCell_other (a := ⟨w2.heap.size, 2, none⟩) HO3.out (by simpa [Value.ownBlock] using g3) (.int .i64 (st + 1))).stored a.toNat (.int .i64 x)).1 (by simpa [Value.ownBlock] using g1) (.int .i64 size)) (by simpa [Value.ownBlock] using g1) (.slice (some ⟨g2, 0, none⟩) zs.length cap2)) (by simpa [Value.ownBlock] using g1) (.int .i64 (st + 1))) (Nat.le_trans hB HZ1.out)
  refine bodyPost_ret (v := .tuple #[.agg #[.int .i64 size, .slice (some ⟨g2, 0, none⟩) zs.length cap2, .int .i64 (st + 1)], .bool true, .int .i64 0]) (by simp [results, Try.results34, go_sem, Z.c0, Z.c1, Z.c2]) rfl ⟨_, rfl, ?_, ?_, ?_⟩
  · simpa [List.map_set] using O
  · exact fun g hg => .inr (by simp only [Value.ownBlock, Option.some.injEq] at hg; omega)
  · exact (((((HB3.out.setCell (p := ⟨w2.heap.size, 2, none⟩) (by simp; omega) _).setCell (p := ⟨g2, a.toNat, none⟩) hg2b _).setCell (p := ⟨w.heap.size + 1, 0, none⟩) (by simp) _).setCell (p := ⟨w.heap.size + 1, 1, none⟩) (by simp) _).setCell (p := ⟨w.heap.size + 1, 2, none⟩) (by simp) _)

set_option maxHeartbeats 1600000 in
theorem refSwapNo (h : w.ownsRow B 2 1 u zs.length (zs.map (Value.int .i64))) (hB : B ≤ w.heap.size) (a old x : Int) (h0 : 0 ≤ a) (h1 : a < zs.length) (ho : zs.getD a.toNat 0 ≠ old) (hl : zs.length ≤ 1000) (k0 : 0 ≤ st) (k1 : st < 1000000) :
    Calls Try.prog 34 #[.agg #[.int .i64 size, u, .int .i64 st], .int .i64 a, .int .i64 old, .int .i64 x] w fun e w' => ∃ u', e = .returned (.tuple #[.agg #[.int .i64 size, u', .int .i64 (st + 1)], .bool false, .int .i64 0]) ∧ Left w B u zs u' w' := by
  obtain ⟨g, cap, rfl, hgl⟩ := own_row h (by omega)
  go_enter Try.func34, Try.ntmps34
  go_wp2_with fail
  generalize hW : (w.alloc (.cells #[.int .i64 size, .slice (some ⟨g, 0, none⟩) zs.length cap, .int .i64 st] 49)).alloc (.cells #[.int .i64 0, .slice none 0 0, .int .i64 0] 49) = W
  obtain ⟨X0, X1, hb0⟩ := begun w _ _ _ W hW
  clear hW
  refine (hasIn (some ⟨g, 0, none⟩) zs.length cap size st a W h0 h1).mono ?_
  rintro e w1 ⟨rfl, b1⟩
  have HY0 := Lib.hid (X0.keep b1)
  have HY1 := Lib.hid (X1.keep b1)
  have HB1 := Lib.hid (hb0.trans (b1.mono hb0.size))
  have HO1 := Lib.hid (own_keep (own_keep h hb0) b1)
  clear X0 X1 b1 h
  have d0 := HY0.out.c0
  have d1 := HY0.out.c1
  have d2 := HY0.out.c2
  have df := HY0.out.f
  have e0 := HY1.out.c0
  have e1 := HY1.out.c1
  have e2 := HY1.out.c2
  have ef := HY1.out.f
  clear hb0
  go_wp2_with fail
  refine (freshAny size st HO1.out hl).mono ?_
  rintro e w2 ⟨u2, rfl, ho2, b2⟩
  obtain ⟨g2, cap2, rfl, hg2⟩ := own_row ho2 (by omega)
  have hN := Nat.lt_of_lt_of_le HY1.out.lt b2.size
  have HX1 := Lib.hid (HY1.out.keep b2)
  have HB2 := Lib.hid (HB1.out.trans (b2.mono HB1.out.size))
  have HO2 := Lib.hid ho2
  have HZ1 := Lib.hid HB1.out.size
  clear b2 ho2 HY0 HY1 HO1 HB1 d0 d1 d2 df e0 e1 e2 ef
  have hN1 : ¬ w2.heap.size = w.heap.size + 1 := by omega
  have hN2 : ¬ w.heap.size + 1 = w2.heap.size := by omega
  go_upto_region 4 with (fail)
  generalize hW3 : w2.alloc (.cells #[.int .i64 size, .slice (some ⟨g2, 0, none⟩) zs.length cap2, .int .i64 st] 49) = W3
  have HX3 := Lib.hid (show Boxed W3 w2.heap.size (.int .i64 size) (.slice (some ⟨g2, 0, none⟩) zs.length cap2) (.int .i64 st) by subst hW3; exact Boxed.new _ _ _ _)
  have HX1' := Lib.hid (show Boxed W3 (w.heap.size + 1) (.int .i64 0) (.slice none 0 0) (.int .i64 0) by subst hW3; exact HX1.out.alloc _)
  have HB3 := Lib.hid (show Below w.heap.size w W3 by subst hW3; exact HB2.out.alloc HB2.out.size _)
  have HO3 := Lib.hid (show W3.ownsRow w1.heap.size 2 1 (.slice (some ⟨g2, 0, none⟩) zs.length cap2) zs.length (zs.map (Value.int .i64)) by subst hW3; exact HO2.out.alloc _)
  clear hW3 HX1 HO2 HB2
  have g3 := own_ne_boxed HO3.out HX3.out
  have g1 := own_ne_boxed HO3.out HX1'.out
  simp only [Value.ownBlock, ne_eq, Option.some.injEq] at g3 g1
  have g3' : ¬ w2.heap.size = g2 := fun e => g3 e.symm
  have g1' : ¬ w.heap.size + 1 = g2 := fun e => g1 e.symm
  have d0 := HX3.out.c0
  have d1 := HX3.out.c1
  have d2 := HX3.out.c2
  have df := HX3.out.f
  have e0 := HX1'.out.c0
  have e1 := HX1'.out.c1
  have e2 := HX1'.out.c2
  have ef := HX1'.out.f
  obtain ⟨cc, cf⟩ := own_cell HO3.out h0 h1
  generalize zs.getD a.toNat 0 = y at *
  have hne : ¬ y = old := ho
  have hg2b : w.heap.size ≤ g2 := Nat.le_trans HZ1.out (HO3.out.lt g2 rfl).1
  go_wp2
  have Z := ((((HX1'.out.other (q := ⟨w2.heap.size, 2, none⟩) (by simp; omega) (.int .i64 (st + 1))).set0 (.int .i64 size)).set1 (.slice (some ⟨g2, 0, none⟩) zs.length cap2)).set2 (.int .i64 (st + 1)))
  have O := own_le (ownsRow_setCell_other (a := ⟨w.heap.size + 1, 2, none⟩) (ownsRow_setCell_other (a := ⟨w.heap.size + 1, 1, none⟩) (ownsRow_setCell_other (a := ⟨w.heap.size + 1, 0, none⟩) (ownsRow_setCell_other (a := ⟨w2.heap.size, 2, none⟩) HO3.out (by simpa [Value.ownBlock] using g3) (.int .i64 (st + 1))) (by simpa [Value.ownBlock] using g1) (.int .i64 size)) (by simpa [Value.ownBlock] using g1) (.slice (some ⟨g2, 0, none⟩) zs.length cap2)) (by simpa [Value.ownBlock] using g1) (.int .i64 (st + 1))) (Nat.le_trans hB HZ1.out)
  refine bodyPost_ret (v := .tuple #[.agg #[.int .i64 size, .slice (some ⟨g2, 0, none⟩) zs.length cap2, .int .i64 (st + 1)], .bool false, .int .i64 0]) (by simp [results, Try.results34, go_sem, Z.c0, Z.c1, Z.c2]) rfl ⟨_, rfl, ?_, ?_, ?_⟩
  · simpa [List.map_set] using O
  · exact fun g hg => .inr (by simp only [Value.ownBlock, Option.some.injEq] at hg; omega)
  · exact ((((HB3.out.setCell (p := ⟨w2.heap.size, 2, none⟩) (by simp; omega) _).setCell (p := ⟨w.heap.size + 1, 0, none⟩) (by simp) _).setCell (p := ⟨w.heap.size + 1, 1, none⟩) (by simp) _).setCell (p := ⟨w.heap.size + 1, 2, none⟩) (by simp) _)

end

end Go.Proofs.Yteebmcldmiemnaa
