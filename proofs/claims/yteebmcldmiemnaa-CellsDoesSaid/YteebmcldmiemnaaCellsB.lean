/-
  What Load, Store and Swap of package cells do: where the cell is there, where it is not, and at nil. Conditions: a memory as Mem says; steps below a million.
-/
import Derived.Test.YteebmcldmiemnaaCellsA
namespace Go.Proofs.Yteebmcldmiemnaa
open Go.RowKit

theorem boxes (w : World) (m : Value) (t u : TypeId) : ∀ W, (w.alloc (.cells #[m] t)).alloc (.cells #[.int .u16 0] u) = W →
    W.cell? ⟨w.heap.size, 0, none⟩ = some m ∧ W.cell? ⟨w.heap.size + 1, 0, none⟩ = some (.int .u16 0) ∧ W.frozen? ⟨w.heap.size + 1, 0, none⟩ = false ∧ (∀ p v, Wrote p v w W) := by
  rintro W rfl
  refine ⟨?_, ?_, ?_, fun p v => ((Wrote.refl p v w).alloc _).alloc _⟩
  all_goals go_simp

theorem cellSame {W : World} {a : Addr} {u : Value} (x : Value) (h : W.cell? a = some u) : (W.setCell a x).cell? a = some x := by
  apply World.cell?_setCell_same; exact h
theorem cellOther {W : World} {a b : Addr} {u : Value} (x : Value) (hb : b.block ≠ a.block) (h : W.cell? b = some u) : (W.setCell a x).cell? b = some u :=
  (World.cell?_of_block (Below.heap_setCell _ _ _ _ hb)).trans h

section
variable {w : World} {B p : Nat} {v : Value} {size : Int} {zs : List Int} {st : Int}

set_option maxHeartbeats 1600000 in
theorem loadIn (h : Mem w B p v size zs st) (a : Int) (h0 : 0 ≤ a) (h1 : a < zs.length) (k0 : 0 ≤ st) (k1 : st < 1000000) :
    Calls Try.prog 15 #[.pointer (some ⟨p, 0, none⟩), .int .i64 a] w fun e w' => e = .returned (.tuple #[.int .i64 (zs.getD a.toNat 0), .int .u16 0]) ∧ Did B p v size zs (st + 1) w w' := by
  obtain ⟨g, cap, hv, hgp, hBg, hgl⟩ := h.row (by omega)
  have hpl := h.lt
  obtain ⟨y, hy⟩ : ∃ y, zs.getD a.toNat 0 = y := ⟨_, rfl⟩
  rw [hy]
  have hmf : ∀ (fn : Fn) (first cap : Array Value) (w : World), (Instr.makeFunc fn first cap).run Try.prog w = .ok (.func fn first cap) w := fun _ _ _ _ => rfl
  go_enter_defers Try.func15, Try.ntmps15
  go_wp2_with fail
  generalize hW : (w.alloc (.cells #[.pointer (some ⟨p, 0, none⟩)] 26)).alloc (.cells #[.int .u16 0] 29) = W
  obtain ⟨b0, b1, f1, wr⟩ := boxes w _ _ _ W hW
  have hM : Mem W B p v size zs st := by subst hW; exact (h.alloc _).alloc _
  clear hW h
  have C := cellIn hM hv a h0 h1
  obtain ⟨cc, cf⟩ := hM.cell hv h0 h1
  rw [hy] at cc
  have HY := Lib.hid hy
  have HM := Lib.hid hM
  have HV := Lib.hid hv
  have HWR := Lib.hid wr
  clear hM hv wr hy
  refine C.mono ?_
  rintro e w' ⟨rfl, rfl⟩
  clear C
  go_wp2
  have D := HM.out.setOther (q := ⟨w.heap.size + 1, 0, none⟩) (by simp; omega) (by rw [HV.out]; simp [Value.ownBlock]; omega) (.int .u16 0)
  have d0 := cellOther (W := W) (a := ⟨w.heap.size + 1, 0, none⟩) (b := ⟨w.heap.size, 0, none⟩) (.int .u16 0) (by simp) b0
  have d1 := cellSame (W := W) (a := ⟨w.heap.size + 1, 0, none⟩) (.int .u16 0) b1
  have d2 := cellOther (a := ⟨p, 2, none⟩) (.int .i64 (st + 1)) (by simp; omega) d1
  refine leaves_cons (f := 29) (args := #[.pointer (some ⟨w.heap.size, 0, none⟩), .pointer (some ⟨w.heap.size + 1, 0, none⟩)]) (by simp) (by simp [go_sem]) ?_
  refine (okLoad (p := p) (st := st) .returning d0 d1 D.c2 (D.f 2) k0 k1).mono ?_
  rintro e u' w'' ⟨rfl, rfl, rfl⟩
  refine ⟨_, by simp [results, Try.results15, go_sem, d2], rfl, _, D.setSteps (st + 1), ?_, Later.refl _ _⟩
  exact ((HWR.out p v).setCell (.inl (by simp)) _).setCell (.inr (.inl rfl)) _

set_option maxHeartbeats 1600000 in
theorem loadOut (h : Mem w B p v size zs st) (a : Int) (h0 : a < 0 ∨ zs.length ≤ a) :
    Calls Try.prog 15 #[.pointer (some ⟨p, 0, none⟩), .int .i64 a] w fun e w' => e = .returned (.tuple #[.int .i64 0, .int .u16 10]) ∧ Did B p v size zs st w w' := by
  have hpl := h.lt
  have hrl : ∀ g, v.ownBlock = some g → g < w.heap.size := fun g hg => (h.rowLt hg).2
  have hmf : ∀ (fn : Fn) (first cap : Array Value) (w : World), (Instr.makeFunc fn first cap).run Try.prog w = .ok (.func fn first cap) w := fun _ _ _ _ => rfl
  go_enter_defers Try.func15, Try.ntmps15
  go_wp2_with fail
  generalize hW : (w.alloc (.cells #[.pointer (some ⟨p, 0, none⟩)] 26)).alloc (.cells #[.int .u16 0] 29) = W
  obtain ⟨b0, b1, f1, wr⟩ := boxes w _ _ _ W hW
  have hM : Mem W B p v size zs st := by subst hW; exact (h.alloc _).alloc _
  clear hW h
  have C := cellOut hM a h0
  have HM := Lib.hid hM
  have HR := Lib.hid hrl
  have HWR := Lib.hid wr
  clear hM wr hrl h0
  refine C.mono ?_
  rintro e w' ⟨rfl, rfl⟩
  clear C
  go_wp2
  have D := HM.out.setOther (q := ⟨w.heap.size + 1, 0, none⟩) (by simp; omega) (fun e => by have := HR.out _ e; simp at this; omega) (.int .u16 10)
  have d0 := cellOther (a := ⟨w.heap.size + 1, 0, none⟩) (b := ⟨w.heap.size, 0, none⟩) (.int .u16 10) (by simp) b0
  have d1 := cellSame (a := ⟨w.heap.size + 1, 0, none⟩) (.int .u16 10) b1
  refine leaves_cons (f := 29) (args := #[.pointer (some ⟨w.heap.size, 0, none⟩), .pointer (some ⟨w.heap.size + 1, 0, none⟩)]) (by simp) (by simp [go_sem]) ?_
  refine (errLoad (p := p) .returning 10 (by omega) d0 d1).mono ?_
  rintro e u' w'' ⟨rfl, rfl, rfl⟩
  refine ⟨_, by simp [results, Try.results15, go_sem, d1], rfl, _, D, ?_, Later.refl _ _⟩
  exact (HWR.out p v).setCell (.inl (by simp)) _

set_option maxHeartbeats 1600000 in
theorem loadNil (w : World) (a : Int) :
    Calls Try.prog 15 #[.pointer none, .int .i64 a] w fun e w' => e = .returned (.tuple #[.int .i64 0, .int .u16 10]) ∧ Below w.heap.size w w' := by
  have hmf : ∀ (fn : Fn) (first cap : Array Value) (w : World), (Instr.makeFunc fn first cap).run Try.prog w = .ok (.func fn first cap) w := fun _ _ _ _ => rfl
  go_enter_defers Try.func15, Try.ntmps15
  go_wp2_with fail
  generalize hW : (w.alloc (.cells #[.pointer none] 26)).alloc (.cells #[.int .u16 0] 29) = W
  obtain ⟨b0, b1, f1, wr⟩ := boxes w _ _ _ W hW
  clear hW
  have HWR := Lib.hid wr
  clear wr
  refine (cellNil W a).mono ?_
  rintro e w' ⟨rfl, rfl⟩
  go_wp2
  have d0 := cellOther (a := ⟨w.heap.size + 1, 0, none⟩) (b := ⟨w.heap.size, 0, none⟩) (.int .u16 10) (by simp) b0
  have d1 := cellSame (a := ⟨w.heap.size + 1, 0, none⟩) (.int .u16 10) b1
  refine leaves_cons (f := 29) (args := #[.pointer (some ⟨w.heap.size, 0, none⟩), .pointer (some ⟨w.heap.size + 1, 0, none⟩)]) (by simp) (by simp [go_sem]) ?_
  refine (nilLoad .returning 10 d0 d1).mono ?_
  rintro e u' w'' ⟨rfl, rfl, rfl⟩
  refine ⟨_, by simp [results, Try.results15, go_sem, d1], rfl, ?_⟩
  exact ((HWR.out w.heap.size (.slice none 0 0)).setCell (.inl (by simp)) _).below (Nat.le_refl _) (Nat.le_refl _) (by simp [Value.ownBlock])

set_option maxHeartbeats 1600000 in
theorem storeIn (h : Mem w B p v size zs st) (a x : Int) (h0 : 0 ≤ a) (h1 : a < zs.length) (k0 : 0 ≤ st) (k1 : st < 1000000) :
    Calls Try.prog 13 #[.pointer (some ⟨p, 0, none⟩), .int .i64 a, .int .i64 x] w fun e w' => e = .returned (.int .u16 0) ∧ Did B p v size (zs.set a.toNat x) (st + 1) w w' := by
  obtain ⟨g, cap, hv, hgp, hBg, hgl⟩ := h.row (by omega)
  have hpl := h.lt
  obtain ⟨y, hy⟩ : ∃ y, zs.getD a.toNat 0 = y := ⟨_, rfl⟩
  skip
  have hmf : ∀ (fn : Fn) (first cap : Array Value) (w : World), (Instr.makeFunc fn first cap).run Try.prog w = .ok (.func fn first cap) w := fun _ _ _ _ => rfl
  go_enter_defers Try.func13, Try.ntmps13
  go_wp2_with fail
  generalize hW : (w.alloc (.cells #[.pointer (some ⟨p, 0, none⟩)] 26)).alloc (.cells #[.int .u16 0] 29) = W
  obtain ⟨b0, b1, f1, wr⟩ := boxes w _ _ _ W hW
  have hM : Mem W B p v size zs st := by subst hW; exact (h.alloc _).alloc _
  clear hW h
  have C := cellIn hM hv a h0 h1
  obtain ⟨cc, cf⟩ := hM.cell hv h0 h1
  rw [hy] at cc
  have b1' := cellOther (W := W) (a := ⟨g, a.toNat, none⟩) (b := ⟨w.heap.size + 1, 0, none⟩) (.int .i64 x) (by simp; omega) b1
  have HY := Lib.hid hy
  have HM := Lib.hid hM
  have HV := Lib.hid hv
  have HWR := Lib.hid wr
  clear hM hv wr hy
  refine C.mono ?_
  rintro e w' ⟨rfl, rfl⟩
  clear C
  go_wp2
  have D := (HM.out.setAt HV.out a.toNat x).setOther (q := ⟨w.heap.size + 1, 0, none⟩) (by simp; omega) (by rw [HV.out]; simp [Value.ownBlock]; omega) (.int .u16 0)
  have d0 := cellOther (W := W.setCell ⟨g, a.toNat, none⟩ (.int .i64 x)) (a := ⟨w.heap.size + 1, 0, none⟩) (b := ⟨w.heap.size, 0, none⟩) (.int .u16 0) (by simp) (cellOther _ (by simp; omega) b0)
  have d1 := cellSame (W := W.setCell ⟨g, a.toNat, none⟩ (.int .i64 x)) (a := ⟨w.heap.size + 1, 0, none⟩) (.int .u16 0) (cellOther _ (by simp; omega) b1)
  have d2 := cellOther (a := ⟨p, 2, none⟩) (.int .i64 (st + 1)) (by simp; omega) d1
  refine leaves_cons (f := 26) (args := #[.pointer (some ⟨w.heap.size, 0, none⟩), .pointer (some ⟨w.heap.size + 1, 0, none⟩)]) (by simp) (by simp [go_sem]) ?_
  refine (okStore (p := p) (st := st) .returning d0 d1 D.c2 (D.f 2) k0 k1).mono ?_
  rintro e u' w'' ⟨rfl, rfl, rfl⟩
  refine ⟨_, by simp [results, Try.results13, go_sem, d2], rfl, _, D.setSteps (st + 1), ?_, Later.refl _ _⟩
  exact (((HWR.out p v).setCell (.inr (.inr (by rw [HV.out]; rfl))) _).setCell (.inl (by simp)) _).setCell (.inr (.inl rfl)) _

set_option maxHeartbeats 1600000 in
theorem storeOut (h : Mem w B p v size zs st) (a x : Int) (h0 : a < 0 ∨ zs.length ≤ a) :
    Calls Try.prog 13 #[.pointer (some ⟨p, 0, none⟩), .int .i64 a, .int .i64 x] w fun e w' => e = .returned (.int .u16 10) ∧ Did B p v size zs st w w' := by
  have hpl := h.lt
  have hrl : ∀ g, v.ownBlock = some g → g < w.heap.size := fun g hg => (h.rowLt hg).2
  have hmf : ∀ (fn : Fn) (first cap : Array Value) (w : World), (Instr.makeFunc fn first cap).run Try.prog w = .ok (.func fn first cap) w := fun _ _ _ _ => rfl
  go_enter_defers Try.func13, Try.ntmps13
  go_wp2_with fail
  generalize hW : (w.alloc (.cells #[.pointer (some ⟨p, 0, none⟩)] 26)).alloc (.cells #[.int .u16 0] 29) = W
  obtain ⟨b0, b1, f1, wr⟩ := boxes w _ _ _ W hW
  have hM : Mem W B p v size zs st := by subst hW; exact (h.alloc _).alloc _
  clear hW h
  have C := cellOut hM a h0
  have HM := Lib.hid hM
  have HR := Lib.hid hrl
  have HWR := Lib.hid wr
  clear hM wr hrl h0
  refine C.mono ?_
  rintro e w' ⟨rfl, rfl⟩
  clear C
  go_wp2
  have D := HM.out.setOther (q := ⟨w.heap.size + 1, 0, none⟩) (by simp; omega) (fun e => by have := HR.out _ e; simp at this; omega) (.int .u16 10)
  have d0 := cellOther (a := ⟨w.heap.size + 1, 0, none⟩) (b := ⟨w.heap.size, 0, none⟩) (.int .u16 10) (by simp) b0
  have d1 := cellSame (a := ⟨w.heap.size + 1, 0, none⟩) (.int .u16 10) b1
  refine leaves_cons (f := 26) (args := #[.pointer (some ⟨w.heap.size, 0, none⟩), .pointer (some ⟨w.heap.size + 1, 0, none⟩)]) (by simp) (by simp [go_sem]) ?_
  refine (errStore (p := p) .returning 10 (by omega) d0 d1).mono ?_
  rintro e u' w'' ⟨rfl, rfl, rfl⟩
  refine ⟨_, by simp [results, Try.results13, go_sem, d1], rfl, _, D, ?_, Later.refl _ _⟩
  exact (HWR.out p v).setCell (.inl (by simp)) _

set_option maxHeartbeats 1600000 in
theorem storeNil (w : World) (a x : Int) :
    Calls Try.prog 13 #[.pointer none, .int .i64 a, .int .i64 x] w fun e w' => e = .returned (.int .u16 10) ∧ Below w.heap.size w w' := by
  have hmf : ∀ (fn : Fn) (first cap : Array Value) (w : World), (Instr.makeFunc fn first cap).run Try.prog w = .ok (.func fn first cap) w := fun _ _ _ _ => rfl
  go_enter_defers Try.func13, Try.ntmps13
  go_wp2_with fail
  generalize hW : (w.alloc (.cells #[.pointer none] 26)).alloc (.cells #[.int .u16 0] 29) = W
  obtain ⟨b0, b1, f1, wr⟩ := boxes w _ _ _ W hW
  clear hW
  have HWR := Lib.hid wr
  clear wr
  refine (cellNil W a).mono ?_
  rintro e w' ⟨rfl, rfl⟩
  go_wp2
  have d0 := cellOther (a := ⟨w.heap.size + 1, 0, none⟩) (b := ⟨w.heap.size, 0, none⟩) (.int .u16 10) (by simp) b0
  have d1 := cellSame (a := ⟨w.heap.size + 1, 0, none⟩) (.int .u16 10) b1
  refine leaves_cons (f := 26) (args := #[.pointer (some ⟨w.heap.size, 0, none⟩), .pointer (some ⟨w.heap.size + 1, 0, none⟩)]) (by simp) (by simp [go_sem]) ?_
  refine (nilStore .returning 10 d0 d1).mono ?_
  rintro e u' w'' ⟨rfl, rfl, rfl⟩
  refine ⟨_, by simp [results, Try.results13, go_sem, d1], rfl, ?_⟩
  exact ((HWR.out w.heap.size (.slice none 0 0)).setCell (.inl (by simp)) _).below (Nat.le_refl _) (Nat.le_refl _) (by simp [Value.ownBlock])

set_option maxHeartbeats 1600000 in
theorem swapIn (h : Mem w B p v size zs st) (a old x : Int) (h0 : 0 ≤ a) (h1 : a < zs.length) (ho : zs.getD a.toNat 0 = old) (k0 : 0 ≤ st) (k1 : st < 1000000) :
    Calls Try.prog 14 #[.pointer (some ⟨p, 0, none⟩), .int .i64 a, .int .i64 old, .int .i64 x] w fun e w' => e = .returned (.tuple #[.bool true, .int .u16 0]) ∧ Did B p v size (zs.set a.toNat x) (st + 1) w w' := by
  obtain ⟨g, cap, hv, hgp, hBg, hgl⟩ := h.row (by omega)
  have hpl := h.lt
  obtain ⟨y, hy⟩ : ∃ y, zs.getD a.toNat 0 = y := ⟨_, rfl⟩
  skip
  have hmf : ∀ (fn : Fn) (first cap : Array Value) (w : World), (Instr.makeFunc fn first cap).run Try.prog w = .ok (.func fn first cap) w := fun _ _ _ _ => rfl
  go_enter_defers Try.func14, Try.ntmps14
  go_wp2_with fail
  generalize hW : (w.alloc (.cells #[.pointer (some ⟨p, 0, none⟩)] 26)).alloc (.cells #[.int .u16 0] 29) = W
  obtain ⟨b0, b1, f1, wr⟩ := boxes w _ _ _ W hW
  have hM : Mem W B p v size zs st := by subst hW; exact (h.alloc _).alloc _
  clear hW h
  have C := cellIn hM hv a h0 h1
  obtain ⟨cc, cf⟩ := hM.cell hv h0 h1
  rw [hy] at cc
  obtain rfl : y = old := hy.symm.trans ho
  have b1' := cellOther (W := W) (a := ⟨g, a.toNat, none⟩) (b := ⟨w.heap.size + 1, 0, none⟩) (.int .i64 x) (by simp; omega) b1
  have HY := Lib.hid hy
  have HM := Lib.hid hM
  have HV := Lib.hid hv
  have HWR := Lib.hid wr
  clear hM hv wr hy
  refine C.mono ?_
  rintro e w' ⟨rfl, rfl⟩
  clear C
  go_wp2
  have D := (HM.out.setAt HV.out a.toNat x).setOther (q := ⟨w.heap.size + 1, 0, none⟩) (by simp; omega) (by rw [HV.out]; simp [Value.ownBlock]; omega) (.int .u16 0)
  have d0 := cellOther (W := W.setCell ⟨g, a.toNat, none⟩ (.int .i64 x)) (a := ⟨w.heap.size + 1, 0, none⟩) (b := ⟨w.heap.size, 0, none⟩) (.int .u16 0) (by simp) (cellOther _ (by simp; omega) b0)
  have d1 := cellSame (W := W.setCell ⟨g, a.toNat, none⟩ (.int .i64 x)) (a := ⟨w.heap.size + 1, 0, none⟩) (.int .u16 0) (cellOther _ (by simp; omega) b1)
  have d2 := cellOther (a := ⟨p, 2, none⟩) (.int .i64 (st + 1)) (by simp; omega) d1
  refine leaves_cons (f := 28) (args := #[.pointer (some ⟨w.heap.size, 0, none⟩), .pointer (some ⟨w.heap.size + 1, 0, none⟩)]) (by simp) (by simp [go_sem]) ?_
  refine (okSwap (p := p) (st := st) .returning d0 d1 D.c2 (D.f 2) k0 k1).mono ?_
  rintro e u' w'' ⟨rfl, rfl, rfl⟩
  refine ⟨_, by simp [results, Try.results14, go_sem, d2], rfl, _, D.setSteps (st + 1), ?_, Later.refl _ _⟩
  exact (((HWR.out p v).setCell (.inr (.inr (by rw [HV.out]; rfl))) _).setCell (.inl (by simp)) _).setCell (.inr (.inl rfl)) _

set_option maxHeartbeats 1600000 in
theorem swapNo (h : Mem w B p v size zs st) (a old x : Int) (h0 : 0 ≤ a) (h1 : a < zs.length) (ho : zs.getD a.toNat 0 ≠ old) (k0 : 0 ≤ st) (k1 : st < 1000000) :
    Calls Try.prog 14 #[.pointer (some ⟨p, 0, none⟩), .int .i64 a, .int .i64 old, .int .i64 x] w fun e w' => e = .returned (.tuple #[.bool false, .int .u16 0]) ∧ Did B p v size zs (st + 1) w w' := by
  obtain ⟨g, cap, hv, hgp, hBg, hgl⟩ := h.row (by omega)
  have hpl := h.lt
  obtain ⟨y, hy⟩ : ∃ y, zs.getD a.toNat 0 = y := ⟨_, rfl⟩
  skip
  have hmf : ∀ (fn : Fn) (first cap : Array Value) (w : World), (Instr.makeFunc fn first cap).run Try.prog w = .ok (.func fn first cap) w := fun _ _ _ _ => rfl
  go_enter_defers Try.func14, Try.ntmps14
  go_wp2_with fail
  generalize hW : (w.alloc (.cells #[.pointer (some ⟨p, 0, none⟩)] 26)).alloc (.cells #[.int .u16 0] 29) = W
  obtain ⟨b0, b1, f1, wr⟩ := boxes w _ _ _ W hW
  have hM : Mem W B p v size zs st := by subst hW; exact (h.alloc _).alloc _
  clear hW h
  have C := cellIn hM hv a h0 h1
  obtain ⟨cc, cf⟩ := hM.cell hv h0 h1
  rw [hy] at cc
  have hne : ¬ y = old := fun e => ho (hy.trans e)
  have HY := Lib.hid hy
  have HM := Lib.hid hM
  have HV := Lib.hid hv
  have HWR := Lib.hid wr
  clear hM hv wr hy
  refine C.mono ?_
  rintro e w' ⟨rfl, rfl⟩
  clear C
  go_wp2
  have D := HM.out.setOther (q := ⟨w.heap.size + 1, 0, none⟩) (by simp; omega) (by rw [HV.out]; simp [Value.ownBlock]; omega) (.int .u16 0)
  have d0 := cellOther (W := W) (a := ⟨w.heap.size + 1, 0, none⟩) (b := ⟨w.heap.size, 0, none⟩) (.int .u16 0) (by simp) b0
  have d1 := cellSame (W := W) (a := ⟨w.heap.size + 1, 0, none⟩) (.int .u16 0) b1
  have d2 := cellOther (a := ⟨p, 2, none⟩) (.int .i64 (st + 1)) (by simp; omega) d1
  refine leaves_cons (f := 28) (args := #[.pointer (some ⟨w.heap.size, 0, none⟩), .pointer (some ⟨w.heap.size + 1, 0, none⟩)]) (by simp) (by simp [go_sem]) ?_
  refine (okSwap (p := p) (st := st) .returning d0 d1 D.c2 (D.f 2) k0 k1).mono ?_
  rintro e u' w'' ⟨rfl, rfl, rfl⟩
  refine ⟨_, by simp [results, Try.results14, go_sem, d2], rfl, _, D.setSteps (st + 1), ?_, Later.refl _ _⟩
  exact ((HWR.out p v).setCell (.inl (by simp)) _).setCell (.inr (.inl rfl)) _

set_option maxHeartbeats 1600000 in
theorem swapOut (h : Mem w B p v size zs st) (a old x : Int) (h0 : a < 0 ∨ zs.length ≤ a) :
    Calls Try.prog 14 #[.pointer (some ⟨p, 0, none⟩), .int .i64 a, .int .i64 old, .int .i64 x] w fun e w' => e = .returned (.tuple #[.bool false, .int .u16 10]) ∧ Did B p v size zs st w w' := by
  have hpl := h.lt
  have hrl : ∀ g, v.ownBlock = some g → g < w.heap.size := fun g hg => (h.rowLt hg).2
  have hmf : ∀ (fn : Fn) (first cap : Array Value) (w : World), (Instr.makeFunc fn first cap).run Try.prog w = .ok (.func fn first cap) w := fun _ _ _ _ => rfl
  go_enter_defers Try.func14, Try.ntmps14
  go_wp2_with fail
  generalize hW : (w.alloc (.cells #[.pointer (some ⟨p, 0, none⟩)] 26)).alloc (.cells #[.int .u16 0] 29) = W
  obtain ⟨b0, b1, f1, wr⟩ := boxes w _ _ _ W hW
  have hM : Mem W B p v size zs st := by subst hW; exact (h.alloc _).alloc _
  clear hW h
  have C := cellOut hM a h0
  have HM := Lib.hid hM
  have HR := Lib.hid hrl
  have HWR := Lib.hid wr
  clear hM wr hrl h0
  refine C.mono ?_
  rintro e w' ⟨rfl, rfl⟩
  clear C
  go_wp2
  have D := HM.out.setOther (q := ⟨w.heap.size + 1, 0, none⟩) (by simp; omega) (fun e => by have := HR.out _ e; simp at this; omega) (.int .u16 10)
  have d0 := cellOther (a := ⟨w.heap.size + 1, 0, none⟩) (b := ⟨w.heap.size, 0, none⟩) (.int .u16 10) (by simp) b0
  have d1 := cellSame (a := ⟨w.heap.size + 1, 0, none⟩) (.int .u16 10) b1
  refine leaves_cons (f := 28) (args := #[.pointer (some ⟨w.heap.size, 0, none⟩), .pointer (some ⟨w.heap.size + 1, 0, none⟩)]) (by simp) (by simp [go_sem]) ?_
  refine (errSwap (p := p) .returning 10 (by omega) d0 d1).mono ?_
  rintro e u' w'' ⟨rfl, rfl, rfl⟩
  refine ⟨_, by simp [results, Try.results14, go_sem, d1], rfl, _, D, ?_, Later.refl _ _⟩
  exact (HWR.out p v).setCell (.inl (by simp)) _

set_option maxHeartbeats 1600000 in
theorem swapNil (w : World) (a old x : Int) :
    Calls Try.prog 14 #[.pointer none, .int .i64 a, .int .i64 old, .int .i64 x] w fun e w' => e = .returned (.tuple #[.bool false, .int .u16 10]) ∧ Below w.heap.size w w' := by
  have hmf : ∀ (fn : Fn) (first cap : Array Value) (w : World), (Instr.makeFunc fn first cap).run Try.prog w = .ok (.func fn first cap) w := fun _ _ _ _ => rfl
  go_enter_defers Try.func14, Try.ntmps14
  go_wp2_with fail
  generalize hW : (w.alloc (.cells #[.pointer none] 26)).alloc (.cells #[.int .u16 0] 29) = W
  obtain ⟨b0, b1, f1, wr⟩ := boxes w _ _ _ W hW
  clear hW
  have HWR := Lib.hid wr
  clear wr
  refine (cellNil W a).mono ?_
  rintro e w' ⟨rfl, rfl⟩
  go_wp2
  have d0 := cellOther (a := ⟨w.heap.size + 1, 0, none⟩) (b := ⟨w.heap.size, 0, none⟩) (.int .u16 10) (by simp) b0
  have d1 := cellSame (a := ⟨w.heap.size + 1, 0, none⟩) (.int .u16 10) b1
  refine leaves_cons (f := 28) (args := #[.pointer (some ⟨w.heap.size, 0, none⟩), .pointer (some ⟨w.heap.size + 1, 0, none⟩)]) (by simp) (by simp [go_sem]) ?_
  refine (nilSwap .returning 10 d0 d1).mono ?_
  rintro e u' w'' ⟨rfl, rfl, rfl⟩
  refine ⟨_, by simp [results, Try.results14, go_sem, d1], rfl, ?_⟩
  exact ((HWR.out w.heap.size (.slice none 0 0)).setCell (.inl (by simp)) _).below (Nat.le_refl _) (Nat.le_refl _) (by simp [Value.ownBlock])

end

end Go.Proofs.Yteebmcldmiemnaa
