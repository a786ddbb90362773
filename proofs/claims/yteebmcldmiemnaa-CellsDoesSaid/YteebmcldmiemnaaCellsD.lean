/-
  What Alloc of package cells does, at every memory and at nil. Conditions: a memory as Mem says; steps below a million.
-/
import Derived.Test.YteebmcldmiemnaaCellsC
namespace Go.Proofs.Yteebmcldmiemnaa
open Go.RowKit

/-- Where a piece of code ends in the ordinary way alone, what is asked of its other ends is nothing. -/
theorem wp_noPanic {P : Program} {s : Code} {K : Act → World → Prop} {Q' : Exit → Act → World → Prop} {a : Act} {w : World} (first : s.wp P (Exit.then K (fun _ _ _ => False)) a w) : s.wp P (Exit.then K Q') a w := by
  refine Go.wp_mono first ?_
  intro e a' w' hq
  cases e with
  | normal => exact hq
  | exit id => exact False.elim hq
  | goto l => exact False.elim hq
  | ret => exact False.elim hq
  | panic ch => exact False.elim hq
  | outgrown => exact False.elim hq

theorem ownShape {w : World} {base : Nat} {e : TypeId} {v : Value} {n : Nat} {xs : List Value} (h : w.ownsRow base e 1 v n xs) : ∃ ao cap, v = .slice ao n cap := by
  rcases h.2 with ⟨rfl, e⟩ | ⟨g, cap, cur, rfl, _⟩
  · exact ⟨none, 0, by rw [e]⟩
  · exact ⟨_, cap, rfl⟩

theorem boxes1 (w : World) (m : Value) (t u : TypeId) : ∀ W, (w.alloc (.cells #[m] t)).alloc (.cells #[.int .u16 1] u) = W →
    W.cell? ⟨w.heap.size, 0, none⟩ = some m ∧ W.cell? ⟨w.heap.size + 1, 0, none⟩ = some (.int .u16 1) ∧ (∀ p v, Wrote p v w W) := by
  rintro W rfl
  refine ⟨?_, ?_, fun p v => ((Wrote.refl p v w).alloc _).alloc _⟩
  all_goals go_simp

section
variable {w : World} {B p : Nat} {v : Value} {size : Int} {zs : List Int} {st : Int}

/-- What stands behind the append, and behind the list's store. -/
theorem grew {W w1 : World} {N : Nat} {v' : Value} {m : Nat} {x : Value} (h : Mem W B p v size zs st) (_ : p < N) (b0 : W.cell? ⟨N, 0, none⟩ = some x) (b1 : W.cell? ⟨N + 1, 0, none⟩ = some (.int .u16 0)) (f1 : W.frozen? ⟨N + 1, 0, none⟩ = false)
    (hr : ∀ g, v.ownBlock = some g → g < N) (ho : w1.ownsRow B 2 1 v' (zs.length + m) (zs.map (Value.int .i64) ++ List.replicate m (.int .i64 0))) (hg : W.grownBy w1 v.ownBlock) (hl : ∀ g, v'.ownBlock = some g → v.ownBlock = some g ∨ W.heap.size ≤ g) :
    w1.cell? ⟨N, 0, none⟩ = some x ∧ w1.cell? ⟨N + 1, 0, none⟩ = some (.int .u16 0) ∧ w1.frozen? ⟨N + 1, 0, none⟩ = false ∧ w1.cell? ⟨p, 1, none⟩ = some v ∧ w1.frozen? ⟨p, 1, none⟩ = false ∧
    (((zs.length + m : Nat) : Int) ≤ size → Mem (w1.setCell ⟨p, 1, none⟩ v') B p v' size (zs ++ List.replicate m 0) st ∧ (∀ g, v'.ownBlock = some g → g ≠ N + 1)) := by
  have e0 : w1.heap[N]? = W.heap[N]? := hg.block N (World.block_lt_of_cell? W _ b0) (fun e => by have := hr N e.symm; omega)
  have e1 : w1.heap[N + 1]? = W.heap[N + 1]? := hg.block (N + 1) (World.block_lt_of_cell? W _ b1) (fun e => by have := hr (N + 1) e.symm; omega)
  have ep : w1.heap[p]? = W.heap[p]? := hg.block p h.lt (fun e => h.ne e.symm)
  have hN := World.block_lt_of_cell? W _ b1
  simp only at hN
  refine ⟨(World.cell?_of_block (a := ⟨N, 0, none⟩) e0).trans b0, (World.cell?_of_block (a := ⟨N + 1, 0, none⟩) e1).trans b1, (World.frozen?_of_block (a := ⟨N + 1, 0, none⟩) e1).trans f1, (World.cell?_of_block (a := ⟨p, 1, none⟩) ep).trans h.c1, (World.frozen?_of_block (a := ⟨p, 1, none⟩) ep).trans (h.f 1), ?_⟩
  intro hs
  have hne : v'.ownBlock ≠ some p := fun e => by
    rcases hl p e with e' | e'
    · exact h.ne e'
    · have := h.lt; omega
  refine ⟨⟨?_, h.low, ?_, h.s0, h.s1, by simpa using hs⟩, ?_⟩
  · rw [heap_setCell_same w1 p 1 _ _ _ (ep.trans h.block)]; rfl
  · have := ownsRow_setCell_other (a := ⟨p, 1, none⟩) ho hne v'
    simpa using this
  · intro g hg' e
    subst e
    rcases hl _ hg' with e' | e'
    · have := hr _ e'; omega
    · omega

set_option maxHeartbeats 3200000 in
theorem allocOk (h : Mem w B p v size zs st) (m : Nat) (hm : (m : Int) ≤ size - zs.length) (k0 : 0 ≤ st) (k1 : st < 1000000) :
    Calls Try.prog 12 #[.pointer (some ⟨p, 0, none⟩), .int .i64 (m : Int)] w fun e w' => e = .returned (.tuple #[.int .i64 (zs.length : Int), .int .u16 0]) ∧ Did B p v size (zs ++ List.replicate m 0) (st + 1) w w' := by
  have hpl := h.lt
  have s1 := h.s1
  have s2 := h.room
  have hrl : ∀ g, v.ownBlock = some g → g < w.heap.size := fun g hg => (h.rowLt hg).2
  obtain ⟨ao, cap, hv⟩ := h.shape
  obtain ⟨i0, hi, hz0, hz1, hz2⟩ := info_parts infoInt64
  have hmf : ∀ (fn : Fn) (first cap : Array Value) (w : World), (Instr.makeFunc fn first cap).run Try.prog w = .ok (.func fn first cap) w := fun _ _ _ _ => rfl
  go_enter_defers Try.func12, Try.ntmps12
  go_wp2_with fail
  generalize hW : (w.alloc (.cells #[.pointer (some ⟨p, 0, none⟩)] 26)).alloc (.cells #[.int .u16 0] 29) = W
  obtain ⟨b0, b1, f1, wr0⟩ := boxes w _ _ _ W hW
  have hM : Mem W B p v size zs st := by subst hW; exact (h.alloc _).alloc _
  clear hW h
  have C := roomAny hM
  have wr := wr0 p v
  clear wr0
  have HM := Lib.hid hM
  have HV := Lib.hid hv
  have HWR := Lib.hid wr
  have HR := Lib.hid hrl
  have HI := Lib.hid hi
  have H0 := Lib.hid hz0
  have H1 := Lib.hid hz1
  have H2 := Lib.hid hz2
  clear hM wr hrl hi hz0 hz1 hz2 hv
  refine C.mono ?_
  rintro e w' ⟨rfl, n, rfl⟩
  clear C
  have c1 := HM.out.c1
  rw [HV.out] at c1
  go_wp2
  have HM2 := Lib.hid (HM.out.drewN n)
  have HWR2 := Lib.hid (HWR.out.drewN n)
  have b0' : (W.drewN n).cell? ⟨w.heap.size, 0, none⟩ = some (.pointer (some ⟨p, 0, none⟩)) := b0
  have b1' : (W.drewN n).cell? ⟨w.heap.size + 1, 0, none⟩ = some (.int .u16 0) := b1
  have f1' : (W.drewN n).frozen? ⟨w.heap.size + 1, 0, none⟩ = false := f1
  have c1' : (W.drewN n).cell? ⟨p, 1, none⟩ = some (.slice ao zs.length cap) := c1
  clear b0 b1 f1 c1 HM HWR
  generalize W.drewN n = W2 at *
  have HO := Lib.hid HM2.out.own
  rw [HV.out] at HO
  have HB := Lib.hid HM2.out.base
  refine wp_noPanic ?_
  go_region_law ((refine step_append_zeros rfl (.tmp 24) (.tmp 25) 37 3 rfl B 2 .i64 i0 (.int .i64 0) Try.underlying37 Try.underlying3 HI.out H0.out H1.out H2.out rfl rfl (.slice ao zs.length cap) zs.length _ rfl HO.out m rfl (by omega) (by omega) HB.out ?_; intro v' w1 ho hg hl; obtain ⟨ao', cap', rfl⟩ := ownShape ho; rw [← HV.out] at hg hl; have hgr := grew HM2.out hpl b0' b1' f1' HR.out ho ⟨hg.os, hg.tape, hg.output, hg.size, hg.block⟩ hl; obtain ⟨x0, x1, x2, x3, x4, x5⟩ := hgr; have HX := Lib.hid x5; have HG := Lib.hid hg; have HL := Lib.hid hl; clear x5 ho hg hl; rw [HV.out] at x3))
  all_goals go_wp2
  all_goals
    obtain ⟨D0, D1⟩ := HX.out (by omega)
    have D := D0.setOther (q := ⟨w.heap.size + 1, 0, none⟩) (by simp; omega) (fun e => D1 _ e rfl) (.int .u16 0)
    have y0 := cellOther (a := ⟨w.heap.size + 1, 0, none⟩) (b := ⟨w.heap.size, 0, none⟩) (.int .u16 0) (by simp) (cellOther (a := ⟨p, 1, none⟩) (.slice ao' (zs.length + m) cap') (by simp; omega) x0)
    have y1 := cellSame (a := ⟨w.heap.size + 1, 0, none⟩) (.int .u16 0) (cellOther (a := ⟨p, 1, none⟩) (.slice ao' (zs.length + m) cap') (by simp; omega) x1)
    have y2 := cellOther (a := ⟨p, 2, none⟩) (.int .i64 (st + 1)) (by simp; omega) y1
    refine leaves_cons (f := 23) (args := #[.pointer (some ⟨w.heap.size, 0, none⟩), .pointer (some ⟨w.heap.size + 1, 0, none⟩)]) (by simp) (by simp [go_sem]) ?_
    refine (okAlloc (p := p) (st := st) .returning y0 y1 D.c2 (D.f 2) k0 k1).mono ?_
    rintro e u' w'' ⟨rfl, rfl, rfl⟩
    refine ⟨_, by simp [results, Try.results12, go_sem, y2], rfl, _, D.setSteps (st + 1), ?_, ?_⟩
    · exact (((HWR2.out.drew.grown HG.out).setCell (.inr (.inl rfl)) _).setCell (.inl (by simp)) _).setCell (.inr (.inl rfl)) _
    · intro g hg
      rcases HL.out g hg with e | e
      · exact .inl e
      · exact .inr (Nat.le_trans HWR2.out.size e)

set_option maxHeartbeats 1600000 in
theorem allocNeg (h : Mem w B p v size zs st) (n : Int) (hn : n < 0) :
    Calls Try.prog 12 #[.pointer (some ⟨p, 0, none⟩), .int .i64 n] w fun e w' => e = .returned (.tuple #[.int .i64 0, .int .u16 1]) ∧ Did B p v size zs st w w' := by
  have hpl := h.lt
  have s0 := h.s0
  have s1 := h.s1
  have s2 := h.room
  have hrl : ∀ g, v.ownBlock = some g → g < w.heap.size := fun g hg => (h.rowLt hg).2
  have hmf : ∀ (fn : Fn) (first cap : Array Value) (w : World), (Instr.makeFunc fn first cap).run Try.prog w = .ok (.func fn first cap) w := fun _ _ _ _ => rfl
  go_enter_defers Try.func12, Try.ntmps12
  go_wp2_with fail
  generalize hW : (w.alloc (.cells #[.pointer (some ⟨p, 0, none⟩)] 26)).alloc (.cells #[.int .u16 1] 29) = W
  obtain ⟨b0, b1, wr⟩ := boxes1 w _ _ _ W hW
  have hM : Mem W B p v size zs st := by subst hW; exact (h.alloc _).alloc _
  clear hW h
  have HM := Lib.hid hM
  have HR := Lib.hid hrl
  have HWR := Lib.hid wr
  clear hM wr hrl
  have HM2 := HM
  have HWR2 := HWR
  have b0' := b0
  have b1' := b1
  refine leaves_cons (f := 23) (args := #[.pointer (some ⟨w.heap.size, 0, none⟩), .pointer (some ⟨w.heap.size + 1, 0, none⟩)]) (by simp) (by simp [go_sem]) ?_
  refine (errAlloc (p := p) .returning 1 (by omega) b0' b1').mono ?_
  rintro e u' w'' ⟨rfl, rfl, rfl⟩
  refine ⟨_, by simp [results, Try.results12, go_sem, b1'], rfl, _, HM2.out, ?_, Later.refl _ _⟩
  exact HWR2.out p v

set_option maxHeartbeats 1600000 in
theorem allocFull (h : Mem w B p v size zs st) (n : Int) (hn : 0 ≤ n ∧ size - zs.length < n) :
    Calls Try.prog 12 #[.pointer (some ⟨p, 0, none⟩), .int .i64 n] w fun e w' => e = .returned (.tuple #[.int .i64 0, .int .u16 11]) ∧ Did B p v size zs st w w' := by
  have hpl := h.lt
  have s0 := h.s0
  have s1 := h.s1
  have s2 := h.room
  have hrl : ∀ g, v.ownBlock = some g → g < w.heap.size := fun g hg => (h.rowLt hg).2
  have hmf : ∀ (fn : Fn) (first cap : Array Value) (w : World), (Instr.makeFunc fn first cap).run Try.prog w = .ok (.func fn first cap) w := fun _ _ _ _ => rfl
  go_enter_defers Try.func12, Try.ntmps12
  go_wp2_with fail
  generalize hW : (w.alloc (.cells #[.pointer (some ⟨p, 0, none⟩)] 26)).alloc (.cells #[.int .u16 0] 29) = W
  obtain ⟨b0, b1, f1, wr⟩ := boxes w _ _ _ W hW
  have hM : Mem W B p v size zs st := by subst hW; exact (h.alloc _).alloc _
  clear hW h
  have C := roomAny hM
  have HM := Lib.hid hM
  have HR := Lib.hid hrl
  have HWR := Lib.hid wr
  clear hM wr hrl
  refine C.mono ?_
  rintro e w' ⟨rfl, n', rfl⟩
  clear C
  have HM2 := Lib.hid (HM.out.drewN n')
  have HWR2 := Lib.hid (fun p v => (HWR.out p v).drewN n')
  have b0' : (W.drewN n').cell? ⟨w.heap.size, 0, none⟩ = some (.pointer (some ⟨p, 0, none⟩)) := b0
  have b1' : (W.drewN n').cell? ⟨w.heap.size + 1, 0, none⟩ = some (.int .u16 0) := b1
  have f1' : (W.drewN n').frozen? ⟨w.heap.size + 1, 0, none⟩ = false := f1
  clear b0 b1 f1 HM HWR
  generalize W.drewN n' = W2 at *
  go_wp2
  have D := HM2.out.setOther (q := ⟨w.heap.size + 1, 0, none⟩) (by simp; omega) (fun e => by have := HR.out _ e; simp at this; omega) (.int .u16 11)
  have d0 := cellOther (a := ⟨w.heap.size + 1, 0, none⟩) (b := ⟨w.heap.size, 0, none⟩) (.int .u16 11) (by simp) b0'
  have d1 := cellSame (a := ⟨w.heap.size + 1, 0, none⟩) (.int .u16 11) b1'
  refine leaves_cons (f := 23) (args := #[.pointer (some ⟨w.heap.size, 0, none⟩), .pointer (some ⟨w.heap.size + 1, 0, none⟩)]) (by simp) (by simp [go_sem]) ?_
  refine (errAlloc (p := p) .returning 11 (by omega) d0 d1).mono ?_
  rintro e u' w'' ⟨rfl, rfl, rfl⟩
  refine ⟨_, by simp [results, Try.results12, go_sem, d1], rfl, _, D, ?_, Later.refl _ _⟩
  exact (HWR2.out p v).setCell (.inl (by simp)) _

set_option maxHeartbeats 1600000 in
theorem allocNilNeg (w : World) (n : Int) (hn : n < 0) :
    Calls Try.prog 12 #[.pointer none, .int .i64 n] w fun e w' => e = .returned (.tuple #[.int .i64 0, .int .u16 1]) ∧ Below w.heap.size w w' := by
  have hmf : ∀ (fn : Fn) (first cap : Array Value) (w : World), (Instr.makeFunc fn first cap).run Try.prog w = .ok (.func fn first cap) w := fun _ _ _ _ => rfl
  go_enter_defers Try.func12, Try.ntmps12
  go_wp2_with fail
  generalize hW : (w.alloc (.cells #[.pointer none] 26)).alloc (.cells #[.int .u16 1] 29) = W
  obtain ⟨b0, b1, wr⟩ := boxes1 w _ _ _ W hW
  clear hW
  have HWR := Lib.hid wr
  clear wr
  have HWR2 := HWR
  have b0' := b0
  have b1' := b1
  refine leaves_cons (f := 23) (args := #[.pointer (some ⟨w.heap.size, 0, none⟩), .pointer (some ⟨w.heap.size + 1, 0, none⟩)]) (by simp) (by simp [go_sem]) ?_
  refine (nilAlloc .returning 1 b0' b1').mono ?_
  rintro e u' w'' ⟨rfl, rfl, rfl⟩
  refine ⟨_, by simp [results, Try.results12, go_sem, b1'], rfl, ?_⟩
  exact (HWR2.out w.heap.size (.slice none 0 0)).below (Nat.le_refl _) (Nat.le_refl _) (by simp [Value.ownBlock])

set_option maxHeartbeats 1600000 in
theorem allocNilOk (w : World) :
    Calls Try.prog 12 #[.pointer none, .int .i64 0] w fun e w' => e = .returned (.tuple #[.int .i64 0, .int .u16 0]) ∧ Below w.heap.size w w' := by
  have hmf : ∀ (fn : Fn) (first cap : Array Value) (w : World), (Instr.makeFunc fn first cap).run Try.prog w = .ok (.func fn first cap) w := fun _ _ _ _ => rfl
  go_enter_defers Try.func12, Try.ntmps12
  go_wp2_with fail
  generalize hW : (w.alloc (.cells #[.pointer none] 26)).alloc (.cells #[.int .u16 0] 29) = W
  obtain ⟨b0, b1, f1, wr⟩ := boxes w _ _ _ W hW
  clear hW
  have HWR := Lib.hid wr
  clear wr
  refine (roomNil W).mono ?_
  rintro e w' ⟨rfl, n', rfl⟩
  have HWR2 := Lib.hid (fun p v => (HWR.out p v).drewN n')
  have b0' : (W.drewN n').cell? ⟨w.heap.size, 0, none⟩ = some (.pointer none) := b0
  have b1' : (W.drewN n').cell? ⟨w.heap.size + 1, 0, none⟩ = some (.int .u16 0) := b1
  have f1' : (W.drewN n').frozen? ⟨w.heap.size + 1, 0, none⟩ = false := f1
  clear b0 b1 f1 HWR
  generalize W.drewN n' = W2 at *
  go_wp2
  have d0 := cellOther (a := ⟨w.heap.size + 1, 0, none⟩) (b := ⟨w.heap.size, 0, none⟩) (.int .u16 0) (by simp) b0'
  have d1 := cellSame (a := ⟨w.heap.size + 1, 0, none⟩) (.int .u16 0) b1'
  refine leaves_cons (f := 23) (args := #[.pointer (some ⟨w.heap.size, 0, none⟩), .pointer (some ⟨w.heap.size + 1, 0, none⟩)]) (by simp) (by simp [go_sem]) ?_
  refine (nilAlloc .returning 0 d0 d1).mono ?_
  rintro e u' w'' ⟨rfl, rfl, rfl⟩
  refine ⟨_, by simp [results, Try.results12, go_sem, d1], rfl, ?_⟩
  exact ((HWR2.out w.heap.size (.slice none 0 0)).setCell (.inl (by simp)) _).below (Nat.le_refl _) (Nat.le_refl _) (by simp [Value.ownBlock])

set_option maxHeartbeats 1600000 in
theorem allocNilFull (w : World) (n : Int) (hn : 0 < n) :
    Calls Try.prog 12 #[.pointer none, .int .i64 n] w fun e w' => e = .returned (.tuple #[.int .i64 0, .int .u16 11]) ∧ Below w.heap.size w w' := by
  have hmf : ∀ (fn : Fn) (first cap : Array Value) (w : World), (Instr.makeFunc fn first cap).run Try.prog w = .ok (.func fn first cap) w := fun _ _ _ _ => rfl
  go_enter_defers Try.func12, Try.ntmps12
  go_wp2_with fail
  generalize hW : (w.alloc (.cells #[.pointer none] 26)).alloc (.cells #[.int .u16 0] 29) = W
  obtain ⟨b0, b1, f1, wr⟩ := boxes w _ _ _ W hW
  clear hW
  have HWR := Lib.hid wr
  clear wr
  refine (roomNil W).mono ?_
  rintro e w' ⟨rfl, n', rfl⟩
  have HWR2 := Lib.hid (fun p v => (HWR.out p v).drewN n')
  have b0' : (W.drewN n').cell? ⟨w.heap.size, 0, none⟩ = some (.pointer none) := b0
  have b1' : (W.drewN n').cell? ⟨w.heap.size + 1, 0, none⟩ = some (.int .u16 0) := b1
  have f1' : (W.drewN n').frozen? ⟨w.heap.size + 1, 0, none⟩ = false := f1
  clear b0 b1 f1 HWR
  generalize W.drewN n' = W2 at *
  go_wp2
  have d0 := cellOther (a := ⟨w.heap.size + 1, 0, none⟩) (b := ⟨w.heap.size, 0, none⟩) (.int .u16 11) (by simp) b0'
  have d1 := cellSame (a := ⟨w.heap.size + 1, 0, none⟩) (.int .u16 11) b1'
  refine leaves_cons (f := 23) (args := #[.pointer (some ⟨w.heap.size, 0, none⟩), .pointer (some ⟨w.heap.size + 1, 0, none⟩)]) (by simp) (by simp [go_sem]) ?_
  refine (nilAlloc .returning 11 d0 d1).mono ?_
  rintro e u' w'' ⟨rfl, rfl, rfl⟩
  refine ⟨_, by simp [results, Try.results12, go_sem, d1], rfl, ?_⟩
  exact ((HWR2.out w.heap.size (.slice none 0 0)).setCell (.inl (by simp)) _).below (Nat.le_refl _) (Nat.le_refl _) (by simp [Value.ownBlock])

end

end Go.Proofs.Yteebmcldmiemnaa
