/-
  What New, Alloc, Load, At, Store and Swap of the document's memory tell. Conditions: at most 1000 cells, steps below a million.
-/
import Derived.Test.YteebmcldmiemnaaRef02
import Derived.RegionTactic
namespace Go.Proofs.Yteebmcldmiemnaa
open Go.RowKit

theorem own_le {w : World} {base base' n : Nat} {u : Value} {xs : List Value} (h : w.ownsRow base 2 1 u n xs) (hb : base' ≤ base) : w.ownsRow base' 2 1 u n xs := by
  refine ⟨h.1, ?_⟩
  rcases h.2 with hn | ⟨g, cap, cur, rfl, hl, r⟩
  · exact .inl hn
  · exact .inr ⟨g, cap, cur, rfl, Nat.le_trans hb hl, r⟩

theorem own_row {w : World} {base n : Nat} {u : Value} {xs : List Value} (h : w.ownsRow base 2 1 u n xs) (hn : 0 < n) : ∃ g cap, u = .slice (some ⟨g, 0, none⟩) n cap ∧ g < w.heap.size := by
  rcases h.2 with ⟨_, e⟩ | ⟨g, cap, cur, rfl, _, hg, _⟩
  · omega
  · exact ⟨g, cap, rfl, lt_of_block hg⟩

theorem own_cell {w : World} {base g cap : Nat} {zs : List Int} (h : w.ownsRow base 2 1 (.slice (some ⟨g, 0, none⟩) zs.length cap) zs.length (zs.map (Value.int .i64))) {a : Int} (h0 : 0 ≤ a) (h1 : a < zs.length) :
    w.cell? ⟨g, a.toNat, none⟩ = some (.int .i64 (zs.getD a.toNat 0)) ∧ w.frozen? ⟨g, a.toNat, none⟩ = false := by
  have hl : a.toNat < zs.length := by omega
  refine ⟨?_, h.frozenAt _⟩
  rw [h.cellAt a.toNat (by omega)]
  simp [List.getD, hl]

/-- What a call of the document's memory leaves: a list of its own, or the one that was; nothing old is touched. -/
def Left (w : World) (B : Nat) (u : Value) (zs : List Int) (u' : Value) (w' : World) : Prop :=
  w'.ownsRow B 2 1 u' zs.length (zs.map (Value.int .i64)) ∧ Later u u' w ∧ Below w.heap.size w w'

/-- The boxes with which each call begins. -/
theorem begun (w : World) (a b c : Value) : ∀ W, (w.alloc (.cells #[a, b, c] 49)).alloc (.cells #[.int .i64 0, .slice none 0 0, .int .i64 0] 49) = W →
    Boxed W w.heap.size a b c ∧ Boxed W (w.heap.size + 1) (.int .i64 0) (.slice none 0 0) (.int .i64 0) ∧ Below w.heap.size w W := by
  rintro W rfl
  refine ⟨(Boxed.new _ _ _ _).alloc _, ?_, ((Below.refl _ _).alloc (Nat.le_refl _) _).alloc (by simp) _⟩
  have := Boxed.new (w.alloc (.cells #[a, b, c] 49)) (.int .i64 0) (.slice none 0 0) (.int .i64 0)
  simpa using this

theorem refNew (n : Int) (w : World) :
    Calls Try.prog 21 #[.int .i64 n] w fun e w' => e = .returned (.agg #[.int .i64 (sizeOf' n), .slice none 0 0, .int .i64 0]) ∧ Below w.heap.size w w' := by
  rcases (show n < 0 ∨ n = 0 ∨ n = 1000 ∨ 1000 < n ∨ (0 < n ∧ n < 1000) from by omega) with h | rfl | rfl | h | ⟨h, h'⟩
  · have e0 : sizeOf' n = 0 := by unfold sizeOf'; (repeat' split) <;> omega
    rw [e0]
    clear e0
    go_enter Try.func21, Try.ntmps21
    go_wp2
    exact bodyPost_ret (v := .agg #[.int .i64 0, .slice none 0 0, .int .i64 0]) (by simp [results, Try.results21, go_sem]) rfl ⟨rfl, (Below.refl _ _).alloc (Nat.le_refl _) _⟩
  · have e0 : sizeOf' 0 = 0 := by unfold sizeOf'; (repeat' split) <;> omega
    rw [e0]
    clear e0
    go_enter Try.func21, Try.ntmps21
    go_wp2
    exact bodyPost_ret (v := .agg #[.int .i64 0, .slice none 0 0, .int .i64 0]) (by simp [results, Try.results21, go_sem]) rfl ⟨rfl, (Below.refl _ _).alloc (Nat.le_refl _) _⟩
  · have e0 : sizeOf' 1000 = 1000 := by unfold sizeOf'; (repeat' split) <;> omega
    rw [e0]
    clear e0
    go_enter Try.func21, Try.ntmps21
    go_wp2
    exact bodyPost_ret (v := .agg #[.int .i64 1000, .slice none 0 0, .int .i64 0]) (by simp [results, Try.results21, go_sem]) rfl ⟨rfl, (Below.refl _ _).alloc (Nat.le_refl _) _⟩
  · have e0 : sizeOf' n = 1000 := by unfold sizeOf'; (repeat' split) <;> omega
    rw [e0]
    clear e0
    go_enter Try.func21, Try.ntmps21
    go_wp2
    exact bodyPost_ret (v := .agg #[.int .i64 1000, .slice none 0 0, .int .i64 0]) (by simp [results, Try.results21, go_sem]) rfl ⟨rfl, (Below.refl _ _).alloc (Nat.le_refl _) _⟩
  · have e0 : sizeOf' n = n := by unfold sizeOf'; (repeat' split) <;> omega
    rw [e0]
    clear e0
    go_enter Try.func21, Try.ntmps21
    go_wp2
    exact bodyPost_ret (v := .agg #[.int .i64 n, .slice none 0 0, .int .i64 0]) (by simp [results, Try.results21, go_sem]) rfl ⟨rfl, (Below.refl _ _).alloc (Nat.le_refl _) _⟩

section
variable {w : World} {B : Nat} {u : Value} {size : Int} {zs : List Int} {st : Int}

set_option maxHeartbeats 1600000 in
theorem refAllocNeg (h : w.ownsRow B 2 1 u zs.length (zs.map (Value.int .i64))) (_ : B ≤ w.heap.size) (n : Int) (hn : n < 0) :
    Calls Try.prog 30 #[.agg #[.int .i64 size, u, .int .i64 st], .int .i64 n] w fun e w' => ∃ u', e = .returned (.tuple #[.agg #[.int .i64 size, u', .int .i64 st], .int .i64 0, .int .i64 1]) ∧ Left w B u zs u' w' := by
  obtain ⟨ao, cap, rfl⟩ := ownShape h
  have HH := Lib.hid h
  clear h
  go_enter Try.func30, Try.ntmps30
  go_wp2
  have hb : Below w.heap.size w ((w.alloc (.cells #[.int .i64 size, .slice ao zs.length cap, .int .i64 st] 49)).alloc (.cells #[.int .i64 size, .slice ao zs.length cap, .int .i64 st] 49)) := ((Below.refl _ _).alloc (Nat.le_refl _) _).alloc (by simp) _
  exact bodyPost_ret (v := .tuple #[.agg #[.int .i64 size, .slice ao zs.length cap, .int .i64 st], .int .i64 0, .int .i64 1]) (by simp [results, Try.results30, go_sem]) rfl ⟨_, rfl, own_keep HH.out hb, Later.refl _ _, hb⟩

set_option maxHeartbeats 1600000 in
theorem refAllocFull (h : w.ownsRow B 2 1 u zs.length (zs.map (Value.int .i64))) (_ : B ≤ w.heap.size) (n : Int) (s0 : 0 ≤ size) (s1 : size ≤ 1000) (s2 : (zs.length : Int) ≤ size) (hn : 0 ≤ n) (hn' : size - zs.length < n) :
    Calls Try.prog 30 #[.agg #[.int .i64 size, u, .int .i64 st], .int .i64 n] w fun e w' => ∃ u', e = .returned (.tuple #[.agg #[.int .i64 size, u', .int .i64 st], .int .i64 0, .int .i64 11]) ∧ Left w B u zs u' w' := by
  obtain ⟨ao, cap, rfl⟩ := ownShape h
  have HH := Lib.hid h
  clear h
  go_enter Try.func30, Try.ntmps30
  go_wp2
  have hb : Below w.heap.size w ((w.alloc (.cells #[.int .i64 size, .slice ao zs.length cap, .int .i64 st] 49)).alloc (.cells #[.int .i64 size, .slice ao zs.length cap, .int .i64 st] 49)) := ((Below.refl _ _).alloc (Nat.le_refl _) _).alloc (by simp) _
  exact bodyPost_ret (v := .tuple #[.agg #[.int .i64 size, .slice ao zs.length cap, .int .i64 st], .int .i64 0, .int .i64 11]) (by simp [results, Try.results30, go_sem]) rfl ⟨_, rfl, own_keep HH.out hb, Later.refl _ _, hb⟩

set_option maxHeartbeats 1600000 in
theorem refAllocOk (h : w.ownsRow B 2 1 u zs.length (zs.map (Value.int .i64))) (hB : B ≤ w.heap.size) (m : Nat) (s1 : size ≤ 1000) (s2 : (zs.length : Int) ≤ size) (hm : (m : Int) ≤ size - zs.length) (k0 : 0 ≤ st) (k1 : st < 1000000) :
    Calls Try.prog 30 #[.agg #[.int .i64 size, u, .int .i64 st], .int .i64 (m : Int)] w fun e w' => ∃ u', e = .returned (.tuple #[.agg #[.int .i64 size, u', .int .i64 (st + 1)], .int .i64 (zs.length : Int), .int .i64 0]) ∧ Left w B u (zs ++ List.replicate m 0) u' w' := by
  obtain ⟨ao, cap, rfl⟩ := ownShape h
  obtain ⟨i0, hi, hz0, hz1, hz2⟩ := info_parts infoInt64
  have HI := Lib.hid hi
  have H0 := Lib.hid hz0
  have H1 := Lib.hid hz1
  have H2 := Lib.hid hz2
  clear hi hz0 hz1 hz2
  go_enter Try.func30, Try.ntmps30
  go_wp2_with fail
  generalize hW : (w.alloc (.cells #[.int .i64 size, .slice ao zs.length cap, .int .i64 st] 49)).alloc (.cells #[.int .i64 0, .slice none 0 0, .int .i64 0] 49) = W
  obtain ⟨X0, X1, hb0⟩ := begun w _ _ _ W hW
  clear hW
  refine (freshAny size st (own_keep h hb0) (by omega)).mono ?_
  rintro e w1 ⟨u1, rfl, ho1, b1⟩
  obtain ⟨ao1, cap1, rfl⟩ := ownShape ho1
  have HX1 := Lib.hid (X1.keep b1)
  have HB1 := Lib.hid (hb0.trans (b1.mono hb0.size))
  have HO1 := Lib.hid ho1
  have hN := Nat.lt_of_lt_of_le X1.lt b1.size
  have hN1 : ¬ w1.heap.size = w.heap.size + 1 := by omega
  have hN2 : ¬ w.heap.size + 1 = w1.heap.size := by omega
  have HZ0 := Lib.hid hb0.size
  have HZ1 := Lib.hid b1.size
  clear X0 X1 b1 ho1 hb0 h
  go_upto_region 7 with (fail)
  generalize hW2 : w1.alloc (.cells #[.int .i64 size, .slice ao1 zs.length cap1, .int .i64 st] 49) = W2
  have HX2 := Lib.hid (show Boxed W2 w1.heap.size (.int .i64 size) (.slice ao1 zs.length cap1) (.int .i64 st) by subst hW2; exact Boxed.new _ _ _ _)
  have HX1' := Lib.hid (show Boxed W2 (w.heap.size + 1) (.int .i64 0) (.slice none 0 0) (.int .i64 0) by subst hW2; exact HX1.out.alloc _)
  have HB2 := Lib.hid (show Below w.heap.size w W2 by subst hW2; exact HB1.out.alloc HB1.out.size _)
  have HO2 := Lib.hid (show W2.ownsRow W.heap.size 2 1 (.slice ao1 zs.length cap1) zs.length (zs.map (Value.int .i64)) by subst hW2; exact HO1.out.alloc _)
  have HZ2 := Lib.hid (show W.heap.size ≤ W2.heap.size by subst hW2; have := HZ1.out; simp; omega)
  clear hW2 HX1 HO1
  have c1 := HX2.out.c1
  go_wp2_with (at_builtin; refine wpList_append_zeros rfl (.tmp 27) (.tmp 28) 37 3 rfl W.heap.size 2 .i64 i0 (.int .i64 0) Try.underlying37 Try.underlying3 HI.out H0.out H1.out H2.out rfl rfl (.slice ao1 zs.length cap1) zs.length _ rfl HO2.out m rfl (by omega) (by omega) HZ2.out ?_; intro v3 w3 ho hg hl; obtain ⟨ao3, cap3, rfl⟩ := ownShape ho; have Y2 := HX2.out.grown hg (own_ne_boxed HO2.out HX2.out); have Y1 := HX1'.out.grown hg (own_ne_boxed HO2.out HX1'.out); have d0 := Y2.c0; have d1 := Y2.c1; have d2 := Y2.c2; have df := Y2.f; have e0 := Y1.c0; have e1 := Y1.c1; have e2 := Y1.c2; have ef := Y1.f; have HO := Lib.hid ho; have HG := Lib.hid hg; have HY2 := Lib.hid Y2; have HY1 := Lib.hid Y1; clear ho hg hl Y2 Y1)
  have Z := ((((HY1.out.other (q := ⟨w1.heap.size, 1, none⟩) (by simp; omega) (.slice ao3 (zs.length + m) cap3)).other (q := ⟨w1.heap.size, 2, none⟩) (by simp; omega) (.int .i64 (st + 1))).set0 (.int .i64 size)).set1 (.slice ao3 (zs.length + m) cap3)).set2 (.int .i64 (st + 1))
  have n2 := own_ne_boxed HO.out HY2.out
  have n1 := own_ne_boxed HO.out HY1.out
  refine bodyPost_ret (v := .tuple #[.agg #[.int .i64 size, .slice ao3 (zs.length + m) cap3, .int .i64 (st + 1)], .int .i64 (zs.length : Int), .int .i64 0]) (by simp [results, Try.results30, go_sem, Z.c0, Z.c1, Z.c2]) rfl ⟨_, rfl, ?_, ?_, ?_⟩
  · have := ownsRow_setCell_other (a := ⟨w.heap.size + 1, 2, none⟩) (ownsRow_setCell_other (a := ⟨w.heap.size + 1, 1, none⟩) (ownsRow_setCell_other (a := ⟨w.heap.size + 1, 0, none⟩) (ownsRow_setCell_other (a := ⟨w1.heap.size, 2, none⟩) (ownsRow_setCell_other (a := ⟨w1.heap.size, 1, none⟩) HO.out n2 (.slice ao3 (zs.length + m) cap3)) n2 (.int .i64 (st + 1))) n1 (.int .i64 size)) n1 (.slice ao3 (zs.length + m) cap3)) n1 (.int .i64 (st + 1))
    have := own_le this (Nat.le_trans hB HZ0.out)
    simpa using this
  · exact fun g hg => .inr (Nat.le_trans HZ0.out (HO.out.lt g hg).1)
  · exact (((((HB2.out.grown HG.out HB2.out.size (fun g hg => Nat.le_trans HZ0.out (HO2.out.lt g hg).1)).setCell (by simp; omega) _).setCell (by simp; omega) _).setCell (by simp) _).setCell (by simp) _).setCell (by simp) _

end

end Go.Proofs.Yteebmcldmiemnaa
