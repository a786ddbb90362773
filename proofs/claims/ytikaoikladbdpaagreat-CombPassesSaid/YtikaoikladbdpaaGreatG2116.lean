/-
  What Load, Store and Swap of package cells do: where the cell is there, where it is not, and at nil. Conditions: a memory as Mem says; steps below a million. What New, Alloc, Cells and Copy of package cells do, at every memory and at nil. Conditions: a memory as Mem says; steps below a million. What Alloc of package cells does, at every memory and at nil. Conditions: a memory as Mem says; steps below a million. What Cells and Copy of package cells do, at every memory and at nil: numbers in new memory, a memory in new memory; all old memory is as it was. Conditions: a memory as Mem says. The calls of package cells where one memory is looked at: what it is behind each call, and that nothing below the block B is touched; and the example that every statement asks ('known'). Conditions: a memory as Mem1 says; steps below a million. What a call that only makes new memory leaves behind: 'Fresh w w2' says that every block of w, and every mark, is as it was. No condition; no Go function is looked at here. Plain arithmetic of words: the word of a kind and a value, and the way back; no Go function is looked at here.
-/
import Derived.Test.YtikaoikladbdpaaGreatG2016
import Derived.WalkKit
import Derived.ProofKit
import Derived.Below
import Derived.RowKit3
import Derived.WalkSmall
import Derived.IntWalk
namespace Go.Proofs.YtikaoikladbdpaaGreat.M2
open Go.RowKit

theorem boxes (w : World) (m : Value) (t u : TypeId) : ∀ W, (w.alloc (.cells #[m] t)).alloc (.cells #[.int .u16 0] u) = W →
    W.cell? ⟨w.heap.size, 0, none⟩ = some m ∧ W.cell? ⟨w.heap.size + 1, 0, none⟩ = some (.int .u16 0) ∧ W.frozen? ⟨w.heap.size + 1, 0, none⟩ = false ∧ (∀ p v, Wrote p v w W) := by
  rintro W rfl
  refine ⟨?_, ?_, ?_, fun p v => ((Wrote.refl p v w).alloc _).alloc _⟩
  all_goals go_simp

section
variable {w : World} {B p : Nat} {v : Value} {size : Int} {zs : List Int} {st : Int}

set_option maxRecDepth 100000 in
set_option maxHeartbeats 1600000 in
theorem loadIn (h : Mem w B p v size zs st) (a : Int) (h0 : 0 ≤ a) (h1 : a < zs.length) (k0 : 0 ≤ st) (k1 : st < 1000000) :
    Calls Tryz.prog 36 #[.pointer (some ⟨p, 0, none⟩), .int .i64 a] w fun e w' => e = .returned (.tuple #[.int .i64 (zs.getD a.toNat 0), .int .u16 0]) ∧ Did B p v size zs (st + 1) w w' := by
  obtain ⟨g, cap, hv, hgp, hBg, hgl⟩ := h.row (by omega)
  have hpl := h.lt
  obtain ⟨y, hy⟩ : ∃ y, zs.getD a.toNat 0 = y := ⟨_, rfl⟩
  rw [hy]
  have hmf : ∀ (fn : Fn) (first cap : Array Value) (w : World), (Instr.makeFunc fn first cap).run Tryz.prog w = .ok (.func fn first cap) w := fun _ _ _ _ => rfl
  go_enter_defers Tryz.func36, Tryz.ntmps36
  go_wp2_with fail
  generalize hW : (w.alloc (.cells #[.pointer (some ⟨p, 0, none⟩)] 39)).alloc (.cells #[.int .u16 0] 83) = W
  obtain ⟨b0, b1, f1, wr⟩ := boxes w _ _ _ W hW
  have hM : Mem W B p v size zs st := by subst hW; exact (h.alloc _).alloc _
  clear hW h
  have C := cellIn hM hv a h0 h1
  obtain ⟨cc, cf⟩ := hM.cell hv h0 h1
  rw [hy] at cc
  have HY := Lib.hid hy
  have HM := Lib.hid hM
  have HV := Lib.hid hv
  have HWR := Lib.hid wr
  clear hM hv wr hy
  refine C.mono ?_
  rintro e w' ⟨rfl, rfl⟩
  clear C
  go_wp2
  have D := HM.out.setOther (q := ⟨w.heap.size + 1, 0, none⟩) (by simp; omega) (by rw [HV.out]; simp [Value.ownBlock]; omega) (.int .u16 0)
  have d0 := cellOther (W := W) (a := ⟨w.heap.size + 1, 0, none⟩) (b := ⟨w.heap.size, 0, none⟩) (.int .u16 0) (by simp) b0
  have d1 := cellSame (W := W) (a := ⟨w.heap.size + 1, 0, none⟩) (.int .u16 0) b1
  have d2 := cellOther (a := ⟨p, 2, none⟩) (.int .i64 (st + 1)) (by simp; omega) d1
  refine leaves_cons (f := 58) (args := #[.pointer (some ⟨w.heap.size, 0, none⟩), .pointer (some ⟨w.heap.size + 1, 0, none⟩)]) (by simp) (by simp [go_sem]) ?_
  refine (okLoad (p := p) (st := st) .returning d0 d1 D.c2 (D.f 2) k0 k1).mono ?_
  rintro e u' w'' ⟨rfl, rfl, rfl⟩
  refine ⟨_, by simp [results, Tryz.results36, go_sem, d2], rfl, _, D.setSteps (st + 1), ?_, Later.refl _ _⟩
  exact ((HWR.out p v).setCell (.inl (by simp)) _).setCell (.inr (.inl rfl)) _

set_option maxRecDepth 100000 in
set_option maxHeartbeats 1600000 in
theorem loadOut (h : Mem w B p v size zs st) (a : Int) (h0 : a < 0 ∨ zs.length ≤ a) :
    Calls Tryz.prog 36 #[.pointer (some ⟨p, 0, none⟩), .int .i64 a] w fun e w' => e = .returned (.tuple #[.int .i64 0, .int .u16 10]) ∧ Did B p v size zs st w w' := by
  have hpl := h.lt
  have hrl : ∀ g, v.ownBlock = some g → g < w.heap.size := fun g hg => (h.rowLt hg).2
  have hmf : ∀ (fn : Fn) (first cap : Array Value) (w : World), (Instr.makeFunc fn first cap).run Tryz.prog w = .ok (.func fn first cap) w := fun _ _ _ _ => rfl
  go_enter_defers Tryz.func36, Tryz.ntmps36
  go_wp2_with fail
  generalize hW : (w.alloc (.cells #[.pointer (some ⟨p, 0, none⟩)] 39)).alloc (.cells #[.int .u16 0] 83) = W
  obtain ⟨b0, b1, f1, wr⟩ := boxes w _ _ _ W hW
  have hM : Mem W B p v size zs st := by subst hW; exact (h.alloc _).alloc _
  clear hW h
  have C := cellOut hM a h0
  have HM := Lib.hid hM
  have HR := Lib.hid hrl
  have HWR := Lib.hid wr
  clear hM wr hrl h0
  refine C.mono ?_
  rintro e w' ⟨rfl, rfl⟩
  clear C
  go_wp2
  have D := HM.out.setOther (q := ⟨w.heap.size + 1, 0, none⟩) (by simp; omega) (fun e => by have := HR.out _ e; simp at this; omega) (.int .u16 10)
  have d0 := cellOther (a := ⟨w.heap.size + 1, 0, none⟩) (b := ⟨w.heap.size, 0, none⟩) (.int .u16 10) (by simp) b0
  have d1 := cellSame (a := ⟨w.heap.size + 1, 0, none⟩) (.int .u16 10) b1
  refine leaves_cons (f := 58) (args := #[.pointer (some ⟨w.heap.size, 0, none⟩), .pointer (some ⟨w.heap.size + 1, 0, none⟩)]) (by simp) (by simp [go_sem]) ?_
  refine (errLoad (p := p) .returning 10 (by omega) d0 d1).mono ?_
  rintro e u' w'' ⟨rfl, rfl, rfl⟩
  refine ⟨_, by simp [results, Tryz.results36, go_sem, d1], rfl, _, D, ?_, Later.refl _ _⟩
  exact (HWR.out p v).setCell (.inl (by simp)) _

set_option maxRecDepth 100000 in
set_option maxHeartbeats 1600000 in
theorem storeIn (h : Mem w B p v size zs st) (a x : Int) (h0 : 0 ≤ a) (h1 : a < zs.length) (k0 : 0 ≤ st) (k1 : st < 1000000) :
    Calls Tryz.prog 37 #[.pointer (some ⟨p, 0, none⟩), .int .i64 a, .int .i64 x] w fun e w' => e = .returned (.int .u16 0) ∧ Did B p v size (zs.set a.toNat x) (st + 1) w w' := by
  obtain ⟨g, cap, hv, hgp, hBg, hgl⟩ := h.row (by omega)
  have hpl := h.lt
  obtain ⟨y, hy⟩ : ∃ y, zs.getD a.toNat 0 = y := ⟨_, rfl⟩
  skip
  have hmf : ∀ (fn : Fn) (first cap : Array Value) (w : World), (Instr.makeFunc fn first cap).run Tryz.prog w = .ok (.func fn first cap) w := fun _ _ _ _ => rfl
  go_enter_defers Tryz.func37, Tryz.ntmps37
  go_wp2_with fail
  generalize hW : (w.alloc (.cells #[.pointer (some ⟨p, 0, none⟩)] 39)).alloc (.cells #[.int .u16 0] 83) = W
  obtain ⟨b0, b1, f1, wr⟩ := boxes w _ _ _ W hW
  have hM : Mem W B p v size zs st := by subst hW; exact (h.alloc _).alloc _
  clear hW h
  have C := cellIn hM hv a h0 h1
  obtain ⟨cc, cf⟩ := hM.cell hv h0 h1
  rw [hy] at cc
  have b1' := cellOther (W := W) (a := ⟨g, a.toNat, none⟩) (b := ⟨w.heap.size + 1, 0, none⟩) (.int .i64 x) (by simp; omega) b1
  have HY := Lib.hid hy
  have HM := Lib.hid hM
  have HV := Lib.hid hv
  have HWR := Lib.hid wr
  clear hM hv wr hy
  refine C.mono ?_
  rintro e w' ⟨rfl, rfl⟩
  clear C
  go_wp2
  have D := (HM.out.setAt HV.out a.toNat x).setOther (q := ⟨w.heap.size + 1, 0, none⟩) (by simp; omega) (by rw [HV.out]; simp [Value.ownBlock]; omega) (.int .u16 0)
  have d0 := cellOther (W := W.setCell ⟨g, a.toNat, none⟩ (.int .i64 x)) (a := ⟨w.heap.size + 1, 0, none⟩) (b := ⟨w.heap.size, 0, none⟩) (.int .u16 0) (by simp) (cellOther _ (by simp; omega) b0)
  have d1 := cellSame (W := W.setCell ⟨g, a.toNat, none⟩ (.int .i64 x)) (a := ⟨w.heap.size + 1, 0, none⟩) (.int .u16 0) (cellOther _ (by simp; omega) b1)
  have d2 := cellOther (a := ⟨p, 2, none⟩) (.int .i64 (st + 1)) (by simp; omega) d1
  refine leaves_cons (f := 61) (args := #[.pointer (some ⟨w.heap.size, 0, none⟩), .pointer (some ⟨w.heap.size + 1, 0, none⟩)]) (by simp) (by simp [go_sem]) ?_
  refine (okStore (p := p) (st := st) .returning d0 d1 D.c2 (D.f 2) k0 k1).mono ?_
  rintro e u' w'' ⟨rfl, rfl, rfl⟩
  refine ⟨_, by simp [results, Tryz.results37, go_sem, d2], rfl, _, D.setSteps (st + 1), ?_, Later.refl _ _⟩
  exact (((HWR.out p v).setCell (.inr (.inr (by rw [HV.out]; rfl))) _).setCell (.inl (by simp)) _).setCell (.inr (.inl rfl)) _

set_option maxRecDepth 100000 in
set_option maxHeartbeats 1600000 in
theorem storeOut (h : Mem w B p v size zs st) (a x : Int) (h0 : a < 0 ∨ zs.length ≤ a) :
    Calls Tryz.prog 37 #[.pointer (some ⟨p, 0, none⟩), .int .i64 a, .int .i64 x] w fun e w' => e = .returned (.int .u16 10) ∧ Did B p v size zs st w w' := by
  have hpl := h.lt
  have hrl : ∀ g, v.ownBlock = some g → g < w.heap.size := fun g hg => (h.rowLt hg).2
  have hmf : ∀ (fn : Fn) (first cap : Array Value) (w : World), (Instr.makeFunc fn first cap).run Tryz.prog w = .ok (.func fn first cap) w := fun _ _ _ _ => rfl
  go_enter_defers Tryz.func37, Tryz.ntmps37
  go_wp2_with fail
  generalize hW : (w.alloc (.cells #[.pointer (some ⟨p, 0, none⟩)] 39)).alloc (.cells #[.int .u16 0] 83) = W
  obtain ⟨b0, b1, f1, wr⟩ := boxes w _ _ _ W hW
  have hM : Mem W B p v size zs st := by subst hW; exact (h.alloc _).alloc _
  clear hW h
  have C := cellOut hM a h0
  have HM := Lib.hid hM
  have HR := Lib.hid hrl
  have HWR := Lib.hid wr
  clear hM wr hrl h0
  refine C.mono ?_
  rintro e w' ⟨rfl, rfl⟩
  clear C
  go_wp2
  have D := HM.out.setOther (q := ⟨w.heap.size + 1, 0, none⟩) (by simp; omega) (fun e => by have := HR.out _ e; simp at this; omega) (.int .u16 10)
  have d0 := cellOther (a := ⟨w.heap.size + 1, 0, none⟩) (b := ⟨w.heap.size, 0, none⟩) (.int .u16 10) (by simp) b0
  have d1 := cellSame (a := ⟨w.heap.size + 1, 0, none⟩) (.int .u16 10) b1
  refine leaves_cons (f := 61) (args := #[.pointer (some ⟨w.heap.size, 0, none⟩), .pointer (some ⟨w.heap.size + 1, 0, none⟩)]) (by simp) (by simp [go_sem]) ?_
  refine (errStore (p := p) .returning 10 (by omega) d0 d1).mono ?_
  rintro e u' w'' ⟨rfl, rfl, rfl⟩
  refine ⟨_, by simp [results, Tryz.results37, go_sem, d1], rfl, _, D, ?_, Later.refl _ _⟩
  exact (HWR.out p v).setCell (.inl (by simp)) _

set_option maxRecDepth 100000 in
set_option maxHeartbeats 1600000 in
theorem swapIn (h : Mem w B p v size zs st) (a old x : Int) (h0 : 0 ≤ a) (h1 : a < zs.length) (ho : zs.getD a.toNat 0 = old) (k0 : 0 ≤ st) (k1 : st < 1000000) :
    Calls Tryz.prog 116 #[.pointer (some ⟨p, 0, none⟩), .int .i64 a, .int .i64 old, .int .i64 x] w fun e w' => e = .returned (.tuple #[.bool true, .int .u16 0]) ∧ Did B p v size (zs.set a.toNat x) (st + 1) w w' := by
  obtain ⟨g, cap, hv, hgp, hBg, hgl⟩ := h.row (by omega)
  have hpl := h.lt
  obtain ⟨y, hy⟩ : ∃ y, zs.getD a.toNat 0 = y := ⟨_, rfl⟩
  skip
  have hmf : ∀ (fn : Fn) (first cap : Array Value) (w : World), (Instr.makeFunc fn first cap).run Tryz.prog w = .ok (.func fn first cap) w := fun _ _ _ _ => rfl
  go_enter_defers Tryz.func116, Tryz.ntmps116
  go_wp2_with fail
  generalize hW : (w.alloc (.cells #[.pointer (some ⟨p, 0, none⟩)] 39)).alloc (.cells #[.int .u16 0] 83) = W
  obtain ⟨b0, b1, f1, wr⟩ := boxes w _ _ _ W hW
  have hM : Mem W B p v size zs st := by subst hW; exact (h.alloc _).alloc _
  clear hW h
  have C := cellIn hM hv a h0 h1
  obtain ⟨cc, cf⟩ := hM.cell hv h0 h1
  rw [hy] at cc
  obtain rfl : y = old := hy.symm.trans ho
  have b1' := cellOther (W := W) (a := ⟨g, a.toNat, none⟩) (b := ⟨w.heap.size + 1, 0, none⟩) (.int .i64 x) (by simp; omega) b1
  have HY := Lib.hid hy
  have HM := Lib.hid hM
  have HV := Lib.hid hv
  have HWR := Lib.hid wr
  clear hM hv wr hy
  refine C.mono ?_
  rintro e w' ⟨rfl, rfl⟩
  clear C
  go_wp2
  have D := (HM.out.setAt HV.out a.toNat x).setOther (q := ⟨w.heap.size + 1, 0, none⟩) (by simp; omega) (by rw [HV.out]; simp [Value.ownBlock]; omega) (.int .u16 0)
  have d0 := cellOther (W := W.setCell ⟨g, a.toNat, none⟩ (.int .i64 x)) (a := ⟨w.heap.size + 1, 0, none⟩) (b := ⟨w.heap.size, 0, none⟩) (.int .u16 0) (by simp) (cellOther _ (by simp; omega) b0)
  have d1 := cellSame (W := W.setCell ⟨g, a.toNat, none⟩ (.int .i64 x)) (a := ⟨w.heap.size + 1, 0, none⟩) (.int .u16 0) (cellOther _ (by simp; omega) b1)
  have d2 := cellOther (a := ⟨p, 2, none⟩) (.int .i64 (st + 1)) (by simp; omega) d1
  refine leaves_cons (f := 124) (args := #[.pointer (some ⟨w.heap.size, 0, none⟩), .pointer (some ⟨w.heap.size + 1, 0, none⟩)]) (by simp) (by simp [go_sem]) ?_
  refine (okSwap (p := p) (st := st) .returning d0 d1 D.c2 (D.f 2) k0 k1).mono ?_
  rintro e u' w'' ⟨rfl, rfl, rfl⟩
  refine ⟨_, by simp [results, Tryz.results116, go_sem, d2], rfl, _, D.setSteps (st + 1), ?_, Later.refl _ _⟩
  exact (((HWR.out p v).setCell (.inr (.inr (by rw [HV.out]; rfl))) _).setCell (.inl (by simp)) _).setCell (.inr (.inl rfl)) _

set_option maxRecDepth 100000 in
set_option maxHeartbeats 1600000 in
theorem swapNo (h : Mem w B p v size zs st) (a old x : Int) (h0 : 0 ≤ a) (h1 : a < zs.length) (ho : zs.getD a.toNat 0 ≠ old) (k0 : 0 ≤ st) (k1 : st < 1000000) :
    Calls Tryz.prog 116 #[.pointer (some ⟨p, 0, none⟩), .int .i64 a, .int .i64 old, .int .i64 x] w fun e w' => e = .returned (.tuple #[.bool false, .int .u16 0]) ∧ Did B p v size zs (st + 1) w w' := by
  obtain ⟨g, cap, hv, hgp, hBg, hgl⟩ := h.row (by omega)
  have hpl := h.lt
  obtain ⟨y, hy⟩ : ∃ y, zs.getD a.toNat 0 = y := ⟨_, rfl⟩
  skip
  have hmf : ∀ (fn : Fn) (first cap : Array Value) (w : World), (Instr.makeFunc fn first cap).run Tryz.prog w = .ok (.func fn first cap) w := fun _ _ _ _ => rfl
  go_enter_defers Tryz.func116, Tryz.ntmps116
  go_wp2_with fail
  generalize hW : (w.alloc (.cells #[.pointer (some ⟨p, 0, none⟩)] 39)).alloc (.cells #[.int .u16 0] 83) = W
  obtain ⟨b0, b1, f1, wr⟩ := boxes w _ _ _ W hW
  have hM : Mem W B p v size zs st := by subst hW; exact (h.alloc _).alloc _
  clear hW h
  have C := cellIn hM hv a h0 h1
  obtain ⟨cc, cf⟩ := hM.cell hv h0 h1
  rw [hy] at cc
  have hne : ¬ y = old := fun e => ho (hy.trans e)
  have HY := Lib.hid hy
  have HM := Lib.hid hM
  have HV := Lib.hid hv
  have HWR := Lib.hid wr
  clear hM hv wr hy
  refine C.mono ?_
  rintro e w' ⟨rfl, rfl⟩
  clear C
  go_wp2
  have D := HM.out.setOther (q := ⟨w.heap.size + 1, 0, none⟩) (by simp; omega) (by rw [HV.out]; simp [Value.ownBlock]; omega) (.int .u16 0)
  have d0 := cellOther (W := W) (a := ⟨w.heap.size + 1, 0, none⟩) (b := ⟨w.heap.size, 0, none⟩) (.int .u16 0) (by simp) b0
  have d1 := cellSame (W := W) (a := ⟨w.heap.size + 1, 0, none⟩) (.int .u16 0) b1
  have d2 := cellOther (a := ⟨p, 2, none⟩) (.int .i64 (st + 1)) (by simp; omega) d1
  refine leaves_cons (f := 124) (args := #[.pointer (some ⟨w.heap.size, 0, none⟩), .pointer (some ⟨w.heap.size + 1, 0, none⟩)]) (by simp) (by simp [go_sem]) ?_
  refine (okSwap (p := p) (st := st) .returning d0 d1 D.c2 (D.f 2) k0 k1).mono ?_
  rintro e u' w'' ⟨rfl, rfl, rfl⟩
  refine ⟨_, by simp [results, Tryz.results116, go_sem, d2], rfl, _, D.setSteps (st + 1), ?_, Later.refl _ _⟩
  exact ((HWR.out p v).setCell (.inl (by simp)) _).setCell (.inr (.inl rfl)) _

set_option maxRecDepth 100000 in
set_option maxHeartbeats 1600000 in
theorem swapOut (h : Mem w B p v size zs st) (a old x : Int) (h0 : a < 0 ∨ zs.length ≤ a) :
    Calls Tryz.prog 116 #[.pointer (some ⟨p, 0, none⟩), .int .i64 a, .int .i64 old, .int .i64 x] w fun e w' => e = .returned (.tuple #[.bool false, .int .u16 10]) ∧ Did B p v size zs st w w' := by
  have hpl := h.lt
  have hrl : ∀ g, v.ownBlock = some g → g < w.heap.size := fun g hg => (h.rowLt hg).2
  have hmf : ∀ (fn : Fn) (first cap : Array Value) (w : World), (Instr.makeFunc fn first cap).run Tryz.prog w = .ok (.func fn first cap) w := fun _ _ _ _ => rfl
  go_enter_defers Tryz.func116, Tryz.ntmps116
  go_wp2_with fail
  generalize hW : (w.alloc (.cells #[.pointer (some ⟨p, 0, none⟩)] 39)).alloc (.cells #[.int .u16 0] 83) = W
  obtain ⟨b0, b1, f1, wr⟩ := boxes w _ _ _ W hW
  have hM : Mem W B p v size zs st := by subst hW; exact (h.alloc _).alloc _
  clear hW h
  have C := cellOut hM a h0
  have HM := Lib.hid hM
  have HR := Lib.hid hrl
  have HWR := Lib.hid wr
  clear hM wr hrl h0
  refine C.mono ?_
  rintro e w' ⟨rfl, rfl⟩
  clear C
  go_wp2
  have D := HM.out.setOther (q := ⟨w.heap.size + 1, 0, none⟩) (by simp; omega) (fun e => by have := HR.out _ e; simp at this; omega) (.int .u16 10)
  have d0 := cellOther (a := ⟨w.heap.size + 1, 0, none⟩) (b := ⟨w.heap.size, 0, none⟩) (.int .u16 10) (by simp) b0
  have d1 := cellSame (a := ⟨w.heap.size + 1, 0, none⟩) (.int .u16 10) b1
  refine leaves_cons (f := 124) (args := #[.pointer (some ⟨w.heap.size, 0, none⟩), .pointer (some ⟨w.heap.size + 1, 0, none⟩)]) (by simp) (by simp [go_sem]) ?_
  refine (errSwap (p := p) .returning 10 (by omega) d0 d1).mono ?_
  rintro e u' w'' ⟨rfl, rfl, rfl⟩
  refine ⟨_, by simp [results, Tryz.results116, go_sem, d1], rfl, _, D, ?_, Later.refl _ _⟩
  exact (HWR.out p v).setCell (.inl (by simp)) _

end

end Go.Proofs.YtikaoikladbdpaaGreat.M2
namespace Go.Proofs.YtikaoikladbdpaaGreat.M2
open Go.RowKit

theorem infoInt64 : (Tryz.prog.info? 2).map (fun i => (i.zero, i.size, i.bytes)) = some (some (.int .i64 0), 1, 8) := by kernel_rfl

def sizeOf' (n : Int) : Int := if n < 0 then 0 else if 1000 < n then 1000 else n
theorem sizeOf'_in (n : Int) : 0 ≤ sizeOf' n ∧ sizeOf' n ≤ 1000 := by unfold sizeOf'; repeat' split
                                                                      all_goals omega

theorem newAny (n : Int) (w : World) :
    Calls Tryz.prog 40 #[.int .i64 n] w fun e w' => e = .returned (.pointer (some ⟨w.heap.size, 0, none⟩)) ∧ Mem w' w.heap.size w.heap.size (.slice none 0 0) (sizeOf' n) [] 0 ∧ Below w.heap.size w w' := by
  have hb := sizeOf'_in n
  have fin : ∀ W, w.alloc (.cells #[.int .i64 (sizeOf' n), .slice none 0 0, .int .i64 0] 117) = W → Mem W w.heap.size w.heap.size (.slice none 0 0) (sizeOf' n) [] 0 ∧ Below w.heap.size w W := by
    rintro W rfl
    exact ⟨⟨heap_alloc_new w _, Nat.le_refl _, World.ownsRow_nil _ _ _ _, hb.1, hb.2, by simpa using hb.1⟩, (Below.refl _ _).alloc (Nat.le_refl _) _⟩
  have HF := Lib.hid fin
  clear fin hb
  rcases (show n < 0 ∨ 1000 < n ∨ (0 ≤ n ∧ n ≤ 1000) from by omega) with h | h | ⟨h, h'⟩
  · have e0 : sizeOf' n = 0 := by unfold sizeOf'; rw [if_pos h]
    rw [e0] at HF ⊢
    clear e0
    go_enter Tryz.func40, Tryz.ntmps40
    go_wp2
    go_ret
    exact ⟨rfl, HF.out _ rfl⟩
  · have e0 : sizeOf' n = 1000 := by unfold sizeOf'; rw [if_neg (by omega), if_pos h]
    rw [e0] at HF ⊢
    clear e0
    go_enter Tryz.func40, Tryz.ntmps40
    go_wp2
    go_ret
    exact ⟨rfl, HF.out _ rfl⟩
  · have e0 : sizeOf' n = n := by unfold sizeOf'; rw [if_neg (by omega), if_neg (by omega)]
    rw [e0] at HF ⊢
    clear e0
    go_enter Tryz.func40, Tryz.ntmps40
    go_wp2
    go_ret
    exact ⟨rfl, HF.out _ rfl⟩

end Go.Proofs.YtikaoikladbdpaaGreat.M2
namespace Go.Proofs.YtikaoikladbdpaaGreat.M2
open Go.RowKit

theorem wp_noPanic {P : Program} {s : Code} {K : Act → World → Prop} {Q' : Exit → Act → World → Prop} {a : Act} {w : World} (first : s.wp P (Exit.then K (fun _ _ _ => False)) a w) : s.wp P (Exit.then K Q') a w := by
  refine Go.wp_mono first ?_
  intro e a' w' hq
  cases e with
  | normal => exact hq
  | exit id => exact False.elim hq
  | goto l => exact False.elim hq
  | ret => exact False.elim hq
  | panic ch => exact False.elim hq
  | outgrown => exact False.elim hq

theorem ownShape {w : World} {base : Nat} {e : TypeId} {v : Value} {n : Nat} {xs : List Value} (h : w.ownsRow base e 1 v n xs) : ∃ ao cap, v = .slice ao n cap := by
  rcases h.2 with ⟨rfl, e⟩ | ⟨g, cap, cur, rfl, _⟩
  · exact ⟨none, 0, by rw [e]⟩
  · exact ⟨_, cap, rfl⟩

section
variable {w : World} {B p : Nat} {v : Value} {size : Int} {zs : List Int} {st : Int}

theorem grew {W w1 : World} {N : Nat} {v' : Value} {m : Nat} {x : Value} (h : Mem W B p v size zs st) (_ : p < N) (b0 : W.cell? ⟨N, 0, none⟩ = some x) (b1 : W.cell? ⟨N + 1, 0, none⟩ = some (.int .u16 0)) (f1 : W.frozen? ⟨N + 1, 0, none⟩ = false)
    (hr : ∀ g, v.ownBlock = some g → g < N) (ho : w1.ownsRow B 2 1 v' (zs.length + m) (zs.map (Value.int .i64) ++ List.replicate m (.int .i64 0))) (hg : W.grownBy w1 v.ownBlock) (hl : ∀ g, v'.ownBlock = some g → v.ownBlock = some g ∨ W.heap.size ≤ g) :
    w1.cell? ⟨N, 0, none⟩ = some x ∧ w1.cell? ⟨N + 1, 0, none⟩ = some (.int .u16 0) ∧ w1.frozen? ⟨N + 1, 0, none⟩ = false ∧ w1.cell? ⟨p, 1, none⟩ = some v ∧ w1.frozen? ⟨p, 1, none⟩ = false ∧
    (((zs.length + m : Nat) : Int) ≤ size → Mem (w1.setCell ⟨p, 1, none⟩ v') B p v' size (zs ++ List.replicate m 0) st ∧ (∀ g, v'.ownBlock = some g → g ≠ N + 1)) := by
  have e0 : w1.heap[N]? = W.heap[N]? := hg.block N (World.block_lt_of_cell? W _ b0) (fun e => by have := hr N e.symm; omega)
  have e1 : w1.heap[N + 1]? = W.heap[N + 1]? := hg.block (N + 1) (World.block_lt_of_cell? W _ b1) (fun e => by have := hr (N + 1) e.symm; omega)
  have ep : w1.heap[p]? = W.heap[p]? := hg.block p h.lt (fun e => h.ne e.symm)
  have hN := World.block_lt_of_cell? W _ b1
  simp only at hN
  refine ⟨(World.cell?_of_block (a := ⟨N, 0, none⟩) e0).trans b0, (World.cell?_of_block (a := ⟨N + 1, 0, none⟩) e1).trans b1, (World.frozen?_of_block (a := ⟨N + 1, 0, none⟩) e1).trans f1, (World.cell?_of_block (a := ⟨p, 1, none⟩) ep).trans h.c1, (World.frozen?_of_block (a := ⟨p, 1, none⟩) ep).trans (h.f 1), ?_⟩
  intro hs
  have hne : v'.ownBlock ≠ some p := fun e => by
    rcases hl p e with e' | e'
    · exact h.ne e'
    · have := h.lt; omega
  refine ⟨⟨?_, h.low, ?_, h.s0, h.s1, by simpa using hs⟩, ?_⟩
  · rw [heap_setCell_same w1 p 1 _ _ _ (ep.trans h.block)]; rfl
  · have := ownsRow_setCell_other (a := ⟨p, 1, none⟩) ho hne v'
    simpa using this
  · intro g hg' e
    subst e
    rcases hl _ hg' with e' | e'
    · have := hr _ e'; omega
    · omega

set_option maxRecDepth 100000 in
set_option maxHeartbeats 3200000 in
theorem allocOk (h : Mem w B p v size zs st) (m : Nat) (hm : (m : Int) ≤ size - zs.length) (k0 : 0 ≤ st) (k1 : st < 1000000) :
    Calls Tryz.prog 43 #[.pointer (some ⟨p, 0, none⟩), .int .i64 (m : Int)] w fun e w' => e = .returned (.tuple #[.int .i64 (zs.length : Int), .int .u16 0]) ∧ Did B p v size (zs ++ List.replicate m 0) (st + 1) w w' := by
  have hpl := h.lt
  have s1 := h.s1
  have s2 := h.room
  have hrl : ∀ g, v.ownBlock = some g → g < w.heap.size := fun g hg => (h.rowLt hg).2
  obtain ⟨ao, cap, hv⟩ := h.shape
  obtain ⟨i0, hi, hz0, hz1, hz2⟩ := info_parts infoInt64
  have hmf : ∀ (fn : Fn) (first cap : Array Value) (w : World), (Instr.makeFunc fn first cap).run Tryz.prog w = .ok (.func fn first cap) w := fun _ _ _ _ => rfl
  go_enter_defers Tryz.func43, Tryz.ntmps43
  go_wp2_with fail
  generalize hW : (w.alloc (.cells #[.pointer (some ⟨p, 0, none⟩)] 39)).alloc (.cells #[.int .u16 0] 83) = W
  obtain ⟨b0, b1, f1, wr0⟩ := boxes w _ _ _ W hW
  have hM : Mem W B p v size zs st := by subst hW; exact (h.alloc _).alloc _
  clear hW h
  have C := roomAny hM
  have wr := wr0 p v
  clear wr0
  have HM := Lib.hid hM
  have HV := Lib.hid hv
  have HWR := Lib.hid wr
  have HR := Lib.hid hrl
  have HI := Lib.hid hi
  have H0 := Lib.hid hz0
  have H1 := Lib.hid hz1
  have H2 := Lib.hid hz2
  clear hM wr hrl hi hz0 hz1 hz2 hv
  refine C.mono ?_
  rintro e w' ⟨rfl, n, rfl⟩
  clear C
  have c1 := HM.out.c1
  rw [HV.out] at c1
  go_wp2
  have HM2 := Lib.hid (HM.out.drewN n)
  have HWR2 := Lib.hid (HWR.out.drewN n)
  have b0' : (W.drewN n).cell? ⟨w.heap.size, 0, none⟩ = some (.pointer (some ⟨p, 0, none⟩)) := b0
  have b1' : (W.drewN n).cell? ⟨w.heap.size + 1, 0, none⟩ = some (.int .u16 0) := b1
  have f1' : (W.drewN n).frozen? ⟨w.heap.size + 1, 0, none⟩ = false := f1
  have c1' : (W.drewN n).cell? ⟨p, 1, none⟩ = some (.slice ao zs.length cap) := c1
  clear b0 b1 f1 c1 HM HWR
  generalize W.drewN n = W2 at *
  have HO := Lib.hid HM2.out.own
  rw [HV.out] at HO
  have HB := Lib.hid HM2.out.base
  refine wp_noPanic ?_
  go_region_law ((refine step_append_zeros rfl (.tmp 24) (.tmp 25) 22 3 rfl B 2 .i64 i0 (.int .i64 0) Tryz.underlying22 Tryz.underlying3 HI.out H0.out H1.out H2.out rfl rfl (.slice ao zs.length cap) zs.length _ rfl HO.out m rfl (by omega) (by omega) HB.out ?_; intro v' w1 ho hg hl; obtain ⟨ao', cap', rfl⟩ := ownShape ho; rw [← HV.out] at hg hl; have hgr := grew HM2.out hpl b0' b1' f1' HR.out ho ⟨hg.os, hg.tape, hg.output, hg.size, hg.block⟩ hl; obtain ⟨x0, x1, x2, x3, x4, x5⟩ := hgr; have HX := Lib.hid x5; have HG := Lib.hid hg; have HL := Lib.hid hl; clear x5 ho hg hl; rw [HV.out] at x3))
  all_goals go_wp2
  all_goals
    obtain ⟨D0, D1⟩ := HX.out (by omega)
    have D := D0.setOther (q := ⟨w.heap.size + 1, 0, none⟩) (by simp; omega) (fun e => D1 _ e rfl) (.int .u16 0)
    have y0 := cellOther (a := ⟨w.heap.size + 1, 0, none⟩) (b := ⟨w.heap.size, 0, none⟩) (.int .u16 0) (by simp) (cellOther (a := ⟨p, 1, none⟩) (.slice ao' (zs.length + m) cap') (by simp; omega) x0)
    have y1 := cellSame (a := ⟨w.heap.size + 1, 0, none⟩) (.int .u16 0) (cellOther (a := ⟨p, 1, none⟩) (.slice ao' (zs.length + m) cap') (by simp; omega) x1)
    have y2 := cellOther (a := ⟨p, 2, none⟩) (.int .i64 (st + 1)) (by simp; omega) y1
    refine leaves_cons (f := 63) (args := #[.pointer (some ⟨w.heap.size, 0, none⟩), .pointer (some ⟨w.heap.size + 1, 0, none⟩)]) (by simp) (by simp [go_sem]) ?_
    refine (okAlloc (p := p) (st := st) .returning y0 y1 D.c2 (D.f 2) k0 k1).mono ?_
    rintro e u' w'' ⟨rfl, rfl, rfl⟩
    refine ⟨_, by simp [results, Tryz.results43, go_sem, y2], rfl, _, D.setSteps (st + 1), ?_, ?_⟩
    · exact (((HWR2.out.drew.grown HG.out).setCell (.inr (.inl rfl)) _).setCell (.inl (by simp)) _).setCell (.inr (.inl rfl)) _
    · intro g hg
      rcases HL.out g hg with e | e
      · exact .inl e
      · exact .inr (Nat.le_trans HWR2.out.size e)

end

end Go.Proofs.YtikaoikladbdpaaGreat.M2
namespace Go.Proofs.YtikaoikladbdpaaGreat.M2
open Go.RowKit

theorem sizeInt64 : (Tryz.prog.info? 2).map (·.size) = some 1 := by kernel_rfl

theorem madeFacts {w w1 : World} {g n : Nat} {ao : Option Addr} {Z : List Value} (ho : w1.ownsRow w.heap.size 2 1 (.slice (some ⟨g, 0, none⟩) n n) n (madeCells (Value.int .i64 0).cells (n * 1)).toList) (hg : w.grownBy w1 none)
    (hs : 0 < Z.length → ∃ ad, ao = some ad ∧ ∀ j u, Z[j]? = some u → w.cell? (ad.add j) = some u) :
    w1.heap[g]? = some (.cells (List.replicate n (.int .i64 0)).toArray 2 (0, 0)) ∧ (0 < Z.length → ∃ ad, ao = some ad ∧ ∀ j u, Z[j]? = some u → w1.cell? (ad.add j) = some u) ∧ Below w.heap.size w w1 := by
  refine ⟨?_, ?_, (Below.refl _ _).grown hg (Nat.le_refl _) (by simp)⟩
  · have := rowWhole ho
    rw [show (Value.int .i64 0).cells = #[Value.int .i64 0] from rfl, Nat.mul_one, toList_madeCells_one] at this
    exact this
  · intro hp
    obtain ⟨ad, rfl, hc⟩ := hs hp
    exact ⟨ad, rfl, fun j u hu => hg.cell (hc j u hu) (by simp)⟩

section
variable {w : World} {B p : Nat} {v : Value} {size : Int} {zs : List Int} {st : Int}

set_option maxRecDepth 100000 in
set_option maxHeartbeats 1600000 in
theorem cellsAny (h : Mem w B p v size zs st) :
    Calls Tryz.prog 23 #[.pointer (some ⟨p, 0, none⟩)] w fun e w' => e = .returned (.slice (some ⟨w.heap.size, 0, none⟩) zs.length zs.length) ∧
      w'.ownsRow w.heap.size 2 1 (.slice (some ⟨w.heap.size, 0, none⟩) zs.length zs.length) zs.length (zs.map (Value.int .i64)) ∧ Below w.heap.size w w' := by
  obtain ⟨ao, cap, hv⟩ := h.shape
  have hs : (zs.length : Int) ≤ 1000 := by have := h.s1; have := h.room; omega
  have hs' : zs.length ≤ 1000 := by omega
  have hpl := h.lt
  have c1 := h.c1
  rw [hv] at c1
  obtain ⟨i0, hi, hz0, hz1, hz2⟩ := info_parts infoInt64
  obtain ⟨Z, hZ⟩ : ∃ Z, Z = zs.map (Value.int .i64) := ⟨_, rfl⟩
  have hsrc : 0 < Z.length → ∃ ad, ao = some ad ∧ ∀ j u, Z[j]? = some u → w.cell? (ad.add j) = some u := by
    intro hp
    subst hZ
    obtain ⟨g, cap', hv', _⟩ := h.row (by simpa using hp)
    rw [hv] at hv'
    simp only [Value.slice.injEq, true_and] at hv'
    refine ⟨⟨g, 0, none⟩, hv'.1, ?_⟩
    exact h.own.cells (g := g) (by rw [hv, hv'.1]; rfl)
  have hlen : Z.length = zs.length := by rw [hZ]; simp
  have h1c : ∀ u ∈ Z, u.oneCell' = true := by subst hZ; exact ints_oneCell _ _
  rw [← hZ]
  have HI := Lib.hid hi
  have H0 := Lib.hid hz0
  have H1 := Lib.hid hz1
  have H2 := Lib.hid hz2
  have HL := Lib.hid hlen
  have HS := Lib.hid hsrc
  have HC := Lib.hid h1c
  clear hi hz0 hz1 hz2 hlen hsrc h1c hZ h hv
  go_enter Tryz.func23, Tryz.ntmps23
  go_wp2_with (first
    | (at_make; refine wpList_make_full _ rfl _ _ 22 rfl w.heap.size 2 i0 (.int .i64 0) 1 Tryz.underlying22 HI.out H0.out H1.out _ _ _ _ zs.length rfl rfl (by simp) (by simp) (by rw [H2.out]; omega) (by unfold maxLen; omega) (Nat.le_refl _) ?_; intro w1 ho hg; have c1' := hg.cell c1 (by simp); have HF := Lib.hid (madeFacts ho hg HS.out); clear ho hg)
    | (with_reducible refine wpList_copy_splice rfl (.tmp 12) (.tmp 16) 22 22 rfl 2 Tryz.underlying22 sizeInt64 _ _ _ _ _ _ rfl rfl w.heap.size 0 (List.replicate zs.length (.int .i64 0)) 2 HF.out.1 Z (by rw [HL.out]; simp) (fun hp => ⟨rfl, HF.out.2.1 hp⟩) (by rw [HL.out]; simp) HC.out w.heap.size w HF.out.2.2 (Nat.le_refl _) ?_; intro w2 hg2 hb2))
  go_ret
  refine ⟨rfl, ?_, hb2⟩
  have hb := hg2.out
  refine rowOf (Nat.le_refl _) HL.out (by unfold maxLen; omega) ?_
  rw [hb]
  simp [splice, HL.out]

def Copied (w : World) (size : Int) (zs : List Int) (st : Int) (e : Ending) (w' : World) : Prop :=
  ∃ q, e = .returned (.pointer (some ⟨q, 0, none⟩)) ∧ Mem w' w.heap.size q (.slice (some ⟨w.heap.size, 0, none⟩) zs.length zs.length) size zs st ∧ Below w.heap.size w w'

end

end Go.Proofs.YtikaoikladbdpaaGreat.M2
namespace Go.Proofs.YtikaoikladbdpaaGreat.M2
open Go.RowKit

section
variable {w : World} {B p : Nat} {size : Int} {zs : List Int} {st : Int}

theorem top1 (h : Mem1 w B p size zs st) :
    Calls Tryz.prog 99 #[.pointer (some ⟨p, 0, none⟩)] w fun e w' => e = .returned (.int .i64 zs.length) ∧ w = w' := by
  obtain ⟨v, m⟩ := h
  exact topAny m

theorem cells1 (h : Mem1 w B p size zs st) :
    Calls Tryz.prog 23 #[.pointer (some ⟨p, 0, none⟩)] w fun e w' => e = .returned (.slice (some ⟨w.heap.size, 0, none⟩) zs.length zs.length) ∧
      w'.ownsRow w.heap.size 2 1 (.slice (some ⟨w.heap.size, 0, none⟩) zs.length zs.length) zs.length (zs.map (Value.int .i64)) ∧ Below w.heap.size w w' := by
  obtain ⟨v, m⟩ := h
  exact cellsAny m

end

end Go.Proofs.YtikaoikladbdpaaGreat.M2
namespace Go.Proofs.YtikaoikladbdpaaGreat.M2
open Go.RowKit

structure Fresh (w w' : World) : Prop where
  below : Below w.heap.size w w'
  marks : ∀ a, w'.frozen? a = w.frozen? a

theorem Fresh.refl (w : World) : Fresh w w := ⟨Below.refl _ _, fun _ => rfl⟩
theorem Fresh.trans {a b c : World} (h : Fresh a b) (k : Fresh b c) : Fresh a c :=
  ⟨h.below.trans (k.below.mono h.below.size), fun x => (k.marks x).trans (h.marks x)⟩
theorem Fresh.alloc {a w : World} (h : Fresh a w) (c : Array Value) (t : TypeId) : Fresh a (w.alloc (.cells c t)) :=
  ⟨h.below.alloc h.below.size _, fun x => (frozen?_alloc_cells w c t x).trans (h.marks x)⟩
theorem Fresh.drewN {a w : World} (h : Fresh a w) (n : Nat) : Fresh a (w.drewN n) := ⟨below_drewN h.below n, h.marks⟩
theorem Fresh.setCell {a w : World} (h : Fresh a w) {p : Addr} (hp : a.heap.size ≤ p.block) (v : Value) : Fresh a (w.setCell p v) :=
  ⟨h.below.setCell hp v, fun x => (World.frozen?_setCell w p x v).trans (h.marks x)⟩
theorem Fresh.size {w w' : World} (h : Fresh w w') : w.heap.size ≤ w'.heap.size := h.below.size
theorem Fresh.cell {w w' : World} (h : Fresh w w') : ∀ b o, b < w.heap.size → w'.cell? ⟨b, o, none⟩ = w.cell? ⟨b, o, none⟩ :=
  fun b o hb => h.below.cell (p := ⟨b, o, none⟩) hb
end Go.Proofs.YtikaoikladbdpaaGreat.M2
namespace Go.Proofs.YtikaoikladbdpaaGreat.M2

def wd (k v : Int) : Int := 256 * (v + 2147483648) + k + 1
def kd (n : Int) : Int := (n - 1) % 256
def vl (n : Int) : Int := (n - 1) / 256 - 2147483648

theorem wd_bd {k v : Int} (k0 : 0 ≤ k) (k1 : k ≤ 255) (v0 : -2147483648 ≤ v) (v1 : v ≤ 2147483647) : 1 ≤ wd k v ∧ wd k v ≤ 1099511627776 := by
  unfold wd; omega
theorem kd_wd {k v : Int} (k0 : 0 ≤ k) (k1 : k ≤ 255) : kd (wd k v) = k := by unfold kd wd; omega
theorem kd_bd (n : Int) : 0 ≤ kd n ∧ kd n ≤ 255 := by unfold kd; omega
theorem vl_bd {n : Int} (h0 : 1 ≤ n) (h1 : n ≤ 1099511627776) : -2147483648 ≤ vl n ∧ vl n ≤ 2147483647 := by unfold vl; omega

end Go.Proofs.YtikaoikladbdpaaGreat.M2
