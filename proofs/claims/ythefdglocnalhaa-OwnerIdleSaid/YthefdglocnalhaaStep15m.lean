/-
  Step of package owner: what a step makes of a thread and of the memory, and what it tells. Conditions: a memory as Mem says; a batch of at most a million items, that lies in memory; steps below a million.
-/
import Derived.Test.YthefdglocnalhaaThrG15
namespace Go.Proofs.Ythefdglocnalhaa.M2
open Go.RowKit

/-- What Step tells: a thread with a batch of its own, and what was told; the memory has done a step. -/
def StepPost (w : World) (B p : Nat) (v0 : Value) (size : Int) (t : Th) (zs : List Int) (st : Int) (n : Nat) (l : List (Int × Int × Int)) (ao : Option Addr) (e : Ending) (w' : World) : Prop :=
  ∃ ao' cap', e = .returned (.tuple #[thV (stp size t zs).t (.slice ao' n cap'), .agg #[.int .u8 (stp size t zs).k, .int .i32 (stp size t zs).v], .bool (stp size t zs).d]) ∧
    Did B p v0 size (stp size t zs).zs (st + (stp size t zs).c) w w' ∧ Its w' ao' n l ∧ (0 < n → ∀ a, ao' = some a → w.heap.size ≤ a.block) ∧ (ao = none → ao' = none ∧ cap' = 0)

theorem RB.f {w : World} {g : Nat} {c x : Int} (h : RB w g c x) (o : Nat) : w.frozen? ⟨g, o, none⟩ = false := by unfold RB at h; simp [World.frozen?, h]
theorem RB.set2 {w : World} {g : Nat} {c x : Int} (h : RB w g c x) (k v : Int) : RB ((w.setCell ⟨g, 0, none⟩ (.int .u8 k)).setCell ⟨g, 1, none⟩ (.int .i32 v)) g k v := by
  have h1 : RB (w.setCell ⟨g, 0, none⟩ (.int .u8 k)) g k x := by unfold RB; rw [heap_setCell_same w g 0 _ _ _ h]; rfl
  unfold RB
  rw [heap_setCell_same _ g 1 _ _ _ h1]
  rfl

/-- The world behind the step, ahead of what is told. -/
structure SW (w : World) (B p N g1 g2 : Nat) (v0 : Value) (size : Int) (S : Sp) (st : Int) (n : Nat) (l : List (Int × Int × Int)) (ao' : Option Addr) (cap' : Nat) (w5 : World) : Prop where
  box : TB w5 N p S.t (.slice ao' n cap') S.k S.v S.d
  did : Did B p v0 size S.zs (st + S.c) w w5
  y : TX w5 g1 t0 (.slice none 0 0)
  r : RB w5 g2 0 0
  its : Its w5 ao' n l
  low : 0 < n → ∀ a, ao' = some a → w.heap.size + 3 ≤ a.block
  n0 : w.heap.size + 3 ≤ N

theorem SW.of {w w2 w5 : World} {B p N g1 g2 : Nat} {v0 : Value} {size st : Int} {zs zs' : List Int} {st' : Int} {S : Sp} {n : Nat} {l : List (Int × Int × Int)} {ao' : Option Addr} {cap' : Nat} (m : Mem w B p v0 size zs st')
    (b2 : Below w.heap.size w w2) (h : TM w2 B p N v0 size S.t (.slice ao' n cap') S.k S.v S.d S.zs (st + S.c) w5) (hy : TX w2 g1 t0 (.slice none 0 0)) (hr : RB w2 g2 0 0) (hi : Its w2 ao' n l) (low : 0 < n → ∀ a, ao' = some a → w.heap.size + 3 ≤ a.block) (h2 : w.heap.size + 3 ≤ w2.heap.size) (g1l : w.heap.size ≤ g1) (g2l : w.heap.size ≤ g2) (hzs : zs' = zs) :
    SW w B p N g1 g2 v0 size S st n l ao' cap' w5 := by
  subst hzs
  have m2 := m.fresh b2
  obtain ⟨u, mm, wr, lt⟩ := h.did
  have far : ∀ g, w.heap.size ≤ g → g ≠ p ∧ v0.ownBlock ≠ some g := fun g hg => ⟨by have := m.lt; omega, fun e => by have := (m.rowLt e).2; omega⟩
  refine ⟨h.box, ?_, (wr.block g1 hy.lt (far g1 g1l).1 (far g1 g1l).2).trans hy, (wr.block g2 hr.lt (far g2 g2l).1 (far g2 g2l).2).trans hr, ?_, low, Nat.le_trans h2 h.far⟩
  · exact Did.comp (v := v0) ⟨b2.os, b2.tape, b2.output, b2.size, fun k hk _ _ => b2.block k hk⟩ (Later.refl _ _) ⟨u, mm, wr, lt⟩
  · exact hi.did (N := w.heap.size) (v' := u) m2 ⟨u, mm, wr, lt⟩ (fun hp a ha => Nat.le_trans (Nat.le_add_right _ 3) (low hp a ha)) m.lt (fun g hg => (m.rowLt hg).2)

theorem sc_size (w : World) (q : Addr) (v : Value) : (w.setCell q v).heap.size = w.heap.size := by simp [World.setCell]
theorem sc_ot (w : World) (q : Addr) (v : Value) : (w.setCell q v).os = w.os ∧ (w.setCell q v).tape = w.tape ∧ (w.setCell q v).output = w.output := ⟨rfl, rfl, rfl⟩
theorem sc_os (w : World) (q : Addr) (v : Value) : (w.setCell q v).os = w.os := rfl
theorem sc_tape (w : World) (q : Addr) (v : Value) : (w.setCell q v).tape = w.tape := rfl
theorem sc_output (w : World) (q : Addr) (v : Value) : (w.setCell q v).output = w.output := rfl
theorem setT_ot (w : World) (g : Nat) (t : Th) (b : Value) : (setT w g t b).os = w.os ∧ (setT w g t b).tape = w.tape ∧ (setT w g t b).output = w.output := by
  simp only [setT, sc_os, sc_tape, sc_output, and_self]
theorem SW.drew {w w5 : World} {B p N g1 g2 : Nat} {v0 : Value} {size st : Int} {S : Sp} {n : Nat} {l : List (Int × Int × Int)} {ao' : Option Addr} {cap' : Nat} (h : SW w B p N g1 g2 v0 size S st n l ao' cap' w5) : SW w B p N g1 g2 v0 size S st n l ao' cap' w5.drew := by
  obtain ⟨u, m, wr, lt⟩ := h.did
  exact ⟨h.box, ⟨u, m.drew, wr.drew, lt⟩, h.y, h.r, ⟨h.its.1, h.its.2⟩, h.low, h.n0⟩

/-- Boxes of one's own are written. -/
theorem SW.fin {w w5 w6 : World} {B p N g1 g2 : Nat} {v0 : Value} {size st : Int} {S : Sp} {n : Nat} {l : List (Int × Int × Int)} {ao' : Option Addr} {cap' : Nat} (h : SW w B p N g1 g2 v0 size S st n l ao' cap' w5)
    (hb : ∀ k, k ≠ g1 → k ≠ g2 → w6.heap[k]? = w5.heap[k]?) (hs : w6.heap.size = w5.heap.size) (ho : w6.os = w5.os ∧ w6.tape = w5.tape ∧ w6.output = w5.output) (g1l : w.heap.size ≤ g1) (g2l : w.heap.size ≤ g2) (k1 : g1 < w.heap.size + 3) (k2 : g2 < w.heap.size + 3) :
    Did B p v0 size S.zs (st + S.c) w w6 ∧ Its w6 ao' n l := by
  obtain ⟨u, m, wr, lt⟩ := h.did
  have own : ∀ {g t cs}, w5.heap[g]? = some (Obj.cells cs t (0, 0)) → t ≠ 2 → u.ownBlock ≠ some g := by
    intro g t cs hg ht e
    rcases m.own.2 with ⟨rfl, _⟩ | ⟨g', cap, cur, rfl, _, hg', _⟩
    · simp [Value.ownBlock] at e
    · simp only [Value.ownBlock, Option.some.injEq] at e
      subst e
      rw [hg] at hg'
      simp only [Option.some.injEq, Obj.cells.injEq] at hg'
      exact ht hg'.2.1
  have pne : ∀ {g t cs}, w5.heap[g]? = some (Obj.cells cs t (0, 0)) → t ≠ 102 → p ≠ g := by
    intro g t cs hg ht e
    subst e
    have := m.block
    rw [hg] at this
    simp only [Option.some.injEq, Obj.cells.injEq] at this
    exact ht this.2.1
  refine ⟨⟨u, m.keep (hb p (pne h.y (by decide)) (pne h.r (by decide))) (fun g hg => hb g (fun e => own h.y (by decide) (e ▸ hg)) (fun e => own h.r (by decide) (e ▸ hg))), ?_, lt⟩, ?_⟩
  · exact ⟨ho.1.trans wr.os, ho.2.1.trans wr.tape, ho.2.2.trans wr.output, by rw [hs]; exact wr.size, fun k hk h1 h2 => (hb k (by omega) (by omega)).trans (wr.block k hk h1 h2)⟩
  · refine ⟨h.its.1, fun hp => ?_⟩
    obtain ⟨b, off, e, hl, hc⟩ := h.its.2 hp
    have hN : w.heap.size + 3 ≤ b := h.low hp _ e
    refine ⟨b, off, e, by rw [hs]; exact hl, fun j x hx => ?_⟩
    rw [← hc j x hx]
    exact World.cell?_of_block (hb b (by omega) (by omega))

theorem SW.fin2 {w w5 : World} {B p N g1 g2 : Nat} {v0 : Value} {size st : Int} {S : Sp} {n : Nat} {l : List (Int × Int × Int)} {ao' : Option Addr} {cap' : Nat} (h : SW w B p N g1 g2 v0 size S st n l ao' cap' w5)
    (g1l : w.heap.size ≤ g1) (g2l : w.heap.size ≤ g2) (k1 : g1 < w.heap.size + 3) (k2 : g2 < w.heap.size + 3) {t : Th} {b x y : Value} :
    Did B p v0 size S.zs (st + S.c) w (((setT w5 g1 t b).setCell ⟨g2, 0, none⟩ x).setCell ⟨g2, 1, none⟩ y) ∧ Its (((setT w5 g1 t b).setCell ⟨g2, 0, none⟩ x).setCell ⟨g2, 1, none⟩ y) ao' n l :=
  h.fin (fun k h1 h2 => (Below.heap_setCell _ _ _ _ h2).trans ((Below.heap_setCell _ _ _ _ h2).trans (setT_other w5 h1 _ _))) (by rw [sc_size, sc_size, setT_size]) ⟨(sc_ot _ _ _).1.trans ((sc_ot _ _ _).1.trans (setT_ot _ _ _ _).1), (sc_ot _ _ _).2.1.trans ((sc_ot _ _ _).2.1.trans (setT_ot _ _ _ _).2.1), (sc_ot _ _ _).2.2.trans ((sc_ot _ _ _).2.2.trans (setT_ot _ _ _ _).2.2)⟩ g1l g2l k1 k2

/-- The turn's cells, as they are read at the end. -/
theorem cells16 {w5 w' : World} {N p : Nat} {S : Sp} {b : Value} (h : TB w5 N p S.t b S.k S.v S.d) (e : w'.heap[N]? = w5.heap[N]?) : w'.cell? ⟨N, 0, none⟩ = some (.int .i64 S.t.ti) ∧ w'.cell? ⟨N, 1, none⟩ = some (.int .i64 S.t.pc) ∧ w'.cell? ⟨N, 2, none⟩ = some (.int .i64 S.t.rc) ∧ w'.cell? ⟨N, 3, none⟩ = some (.int .i64 S.t.sq) ∧ w'.cell? ⟨N, 4, none⟩ = some (.int .i64 S.t.wo) ∧ w'.cell? ⟨N, 5, none⟩ = some (.int .i64 S.t.lk) ∧ w'.cell? ⟨N, 6, none⟩ = some (.int .i64 S.t.cu) ∧ w'.cell? ⟨N, 7, none⟩ = some (.int .i64 S.t.pv) ∧ w'.cell? ⟨N, 8, none⟩ = some (.int .i64 S.t.nt) ∧ w'.cell? ⟨N, 9, none⟩ = some (.int .i64 S.t.mx) ∧ w'.cell? ⟨N, 10, none⟩ = some (.int .i64 S.t.ps) ∧ w'.cell? ⟨N, 11, none⟩ = some (.int .i64 S.t.rn) ∧ w'.cell? ⟨N, 12, none⟩ = some (b) ∧ w'.cell? ⟨N, 14, none⟩ = some (.int .u8 S.k) ∧ w'.cell? ⟨N, 15, none⟩ = some (.int .i32 S.v) ∧ w'.cell? ⟨N, 16, none⟩ = some (.bool S.d) := by
  have x := h.at e
  exact ⟨x.c0, x.c1, x.c2, x.c3, x.c4, x.c5, x.c6, x.c7, x.c8, x.c9, x.c10, x.c11, x.c12, x.c14, x.c15, x.c16⟩

set_option maxRecDepth 100000 in
set_option maxHeartbeats 16000000 in
theorem stepO (w : World) {B p : Nat} {v0 : Value} {size : Int} {zs : List Int} {st : Int} (m : Mem w B p v0 size zs st) (t : Th) (ao : Option Addr) (n cap : Nat) (l : List (Int × Int × Int)) (h : Its w ao n l) (hn : n ≤ 1000000) (hc : ao = none → cap = 0) (hr : ad t.rc 0 = t.rc) (k0 : 0 ≤ st) (k1 : st < 1000000) :
    Calls Try.prog 21 #[.pointer (some ⟨p, 0, none⟩), thV t (.slice ao n cap)] w (StepPost w B p v0 size t zs st n l ao) := by
  have HV := Lib.hid (show thV t (.slice ao n cap) = .agg #[.int .i64 t.ti, .int .i64 t.pc, .int .i64 t.rc, .int .i64 t.sq, .int .i64 t.wo, .int .i64 t.lk, .int .i64 t.cu, .int .i64 t.pv, .int .i64 t.nt, .int .i64 t.mx, .int .i64 t.ps, .int .i64 t.rn, .slice ao n cap] from rfl)
  rw [HV.out]
  have H := Lib.hid h
  have HC := Lib.hid hc
  have HR := Lib.hid hr
  have HM := Lib.hid m
  clear h hc hr m
  go_enter Try.func21, Try.ntmps21
  go_upto_region 1 with (fail)
  generalize hW : ((w.alloc (.cells #[.int .i64 t.ti, .int .i64 t.pc, .int .i64 t.rc, .int .i64 t.sq, .int .i64 t.wo, .int .i64 t.lk, .int .i64 t.cu, .int .i64 t.pv, .int .i64 t.nt, .int .i64 t.mx, .int .i64 t.ps, .int .i64 t.rn, .slice ao n cap] 25)).alloc (.cells #[.int .i64 0, .int .i64 0, .int .i64 0, .int .i64 0, .int .i64 0, .int .i64 0, .int .i64 0, .int .i64 0, .int .i64 0, .int .i64 0, .int .i64 0, .int .i64 0, .slice none 0 0] 25)).alloc (.cells #[.int .u8 0, .int .i32 0] 49) = W
  have HX := Lib.hid (show TX W w.heap.size t (.slice ao n cap) by subst hW; exact ((TX.new w t _).alloc _).alloc _)
  have HY := Lib.hid (show TX W (w.heap.size + 1) t0 (.slice none 0 0) by
    subst hW
    have := (TX.new (w.alloc (.cells #[.int .i64 t.ti, .int .i64 t.pc, .int .i64 t.rc, .int .i64 t.sq, .int .i64 t.wo, .int .i64 t.lk, .int .i64 t.cu, .int .i64 t.pv, .int .i64 t.nt, .int .i64 t.mx, .int .i64 t.ps, .int .i64 t.rn, .slice ao n cap] 25)) t0 (.slice none 0 0)).alloc (.cells #[.int .u8 0, .int .i32 0] 49)
    simpa [t0] using this)
  have HZ := Lib.hid (show RB W (w.heap.size + 1 + 1) 0 0 by
    subst hW
    have := RB.new ((w.alloc (.cells #[.int .i64 t.ti, .int .i64 t.pc, .int .i64 t.rc, .int .i64 t.sq, .int .i64 t.wo, .int .i64 t.lk, .int .i64 t.cu, .int .i64 t.pv, .int .i64 t.nt, .int .i64 t.mx, .int .i64 t.ps, .int .i64 t.rn, .slice ao n cap] 25)).alloc (.cells #[.int .i64 0, .int .i64 0, .int .i64 0, .int .i64 0, .int .i64 0, .int .i64 0, .int .i64 0, .int .i64 0, .int .i64 0, .int .i64 0, .int .i64 0, .int .i64 0, .slice none 0 0] 25)) 0 0
    simpa using this)
  have HB := Lib.hid (show Below w.heap.size w W by subst hW; exact (((Below.refl _ _).alloc (Nat.le_refl _) _).alloc (by simp) _).alloc (by simp; omega) _)
  have HWS := Lib.hid (show W.heap.size = w.heap.size + 3 by subst hW; simp)
  have C := apartAny W t ao n cap l (H.out.keep HB.out) hn HC.out
  rw [HV.out] at C
  have x := HX.out
  have c0 := x.c0
  have c1 := x.c1
  have c2 := x.c2
  have c3 := x.c3
  have c4 := x.c4
  have c5 := x.c5
  have c6 := x.c6
  have c7 := x.c7
  have c8 := x.c8
  have c9 := x.c9
  have c10 := x.c10
  have c11 := x.c11
  have c12 := x.c12
  clear hW x
  go_wp2_with fail
  refine C.mono ?_
  clear C
  rintro e w2 ⟨ao', cap', rfl, cp⟩
  have HV2 := Lib.hid (show thV t (.slice ao' n cap') = .agg #[.int .i64 t.ti, .int .i64 t.pc, .int .i64 t.rc, .int .i64 t.sq, .int .i64 t.wo, .int .i64 t.lk, .int .i64 t.cu, .int .i64 t.pv, .int .i64 t.nt, .int .i64 t.mx, .int .i64 t.ps, .int .i64 t.rn, .slice ao' n cap'] from rfl)
  rw [HV2.out]
  have HCP := Lib.hid cp
  have b2 := cp.2.2.1
  have HXY := Lib.hid (And.intro (HX.out.keep b2) (And.intro (HY.out.keep b2) (HZ.out.keep b2)))
  clear cp c0 c1 c2 c3 c4 c5 c6 c7 c8 c9 c10 c11 c12
  go_upto_region 2 with (fail)
  generalize hW3 : w2.alloc (.cells #[.int .i64 t.ti, .int .i64 t.pc, .int .i64 t.rc, .int .i64 t.sq, .int .i64 t.wo, .int .i64 t.lk, .int .i64 t.cu, .int .i64 t.pv, .int .i64 t.nt, .int .i64 t.mx, .int .i64 t.ps, .int .i64 t.rn, .slice ao' n cap', .pointer (some ⟨p, 0, none⟩), .int .u8 0, .int .i32 0, .bool false] 89) = w3
  have HB2 := Lib.hid (HB.out.trans (b2.mono HB.out.size))
  have HB3 := Lib.hid (show Below w2.heap.size w2 w3 by subst hW3; exact (Below.refl _ _).alloc (Nat.le_refl _) _)
  have H3 := Lib.hid (show TM w2 B p w2.heap.size v0 size t (.slice ao' n cap') 0 0 false zs st w3 from
    ⟨by subst hW3; exact TB.new w2 p t _ 0 0 false, ⟨v0, (HM.out.fresh HB2.out).fresh HB3.out, ⟨HB3.out.os, HB3.out.tape, HB3.out.output, HB3.out.size, fun k hk _ _ => HB3.out.block k hk⟩, Later.refl _ _⟩, Nat.le_refl _⟩)
  have HLW := Lib.hid (show 0 < n → ∀ a, ao' = some a → w.heap.size + 3 ≤ a.block from fun hp a ha => by rw [← HWS.out]; exact HCP.out.2.1 hp a ha)
  have HS2 := Lib.hid (show w.heap.size + 3 ≤ w2.heap.size by have := b2.size; rw [HWS.out] at this; exact this)
  clear hW3 b2
  have A := asksO w3 t (.slice ao n cap) ⟨_, _, _, rfl⟩
  rw [HV.out] at A
  have HA := Lib.hid A
  clear A
  have x := HXY.out.1.keep HB3.out
  have c0 := x.c0
  have c1 := x.c1
  have c2 := x.c2
  have c3 := x.c3
  have c4 := x.c4
  have c5 := x.c5
  have c6 := x.c6
  have c7 := x.c7
  have c8 := x.c8
  have c9 := x.c9
  have c10 := x.c10
  have c11 := x.c11
  have c12 := x.c12
  clear x
  go_wp2_with fail
  with_reducible refine HA.out.mono ?_
  clear HA c0 c1 c2 c3 c4 c5 c6 c7 c8 c9 c10 c11 c12
  rintro e w4 ⟨rfl, b4⟩
  have H4 := Lib.hid (H3.out.fresh b4)
  clear b4 H3
  by_cases hp : 1 ≤ t.pc ∧ t.pc ≤ 16
  · rw [decide_eq_true hp]
    have C := Lib.hid (actT H4.out HR.out hp k0 k1)
    clear hp
    go_wp2_with fail
    with_reducible refine C.out.mono ?_
    clear C
    rintro e w5 ⟨rfl, h5⟩
    have HS := Lib.hid (SW.of HM.out HB2.out h5 HXY.out.2.1 HXY.out.2.2 HCP.out.1 HLW.out HS2.out (Nat.le_succ _) (by omega) rfl)
    clear h5 H4
    obtain ⟨S, hS⟩ : ∃ S, stp size t zs = S := ⟨_, rfl⟩
    rw [hS] at HS
    have HSE := Lib.hid hS
    clear hS
    go_wp2
    have x := HS.out.box
    have c0 := x.c0
    have c1 := x.c1
    have c2 := x.c2
    have c3 := x.c3
    have c4 := x.c4
    have c5 := x.c5
    have c6 := x.c6
    have c7 := x.c7
    have c8 := x.c8
    have c9 := x.c9
    have c10 := x.c10
    have c11 := x.c11
    have c12 := x.c12
    have c13 := x.c13
    have c14 := x.c14
    have c15 := x.c15
    have c16 := x.c16
    have y := HS.out.y
    have yf := y.f
    have r0 := y.c0
    have r1 := y.c1
    have r2 := y.c2
    have r3 := y.c3
    have r4 := y.c4
    have r5 := y.c5
    have r6 := y.c6
    have r7 := y.c7
    have r8 := y.c8
    have r9 := y.c9
    have r10 := y.c10
    have r11 := y.c11
    have r12 := y.c12
    have q0 := HS.out.r.c0
    have q1 := HS.out.r.c1
    have qf := HS.out.r.f
    have hne : ¬ w2.heap.size = w.heap.size + 1 := by have := HS2.out; omega
    have hne2 : ¬ w2.heap.size = w.heap.size + 1 + 1 := by have := HS2.out; omega
    clear x y c13
    go_region
    go_wp2
    have HSD := HS.out
    have Z := HSD.y.all S.t (.slice ao' n cap')
    have Z2 : RB (setT w5 (w.heap.size + 1) S.t (.slice ao' n cap')) (w.heap.size + 1 + 1) 0 0 := (setT_other w5 (by omega) _ _).trans HSD.r
    change bodyPost _ _ _ _ _ (((setT w5 (w.heap.size + 1) S.t (.slice ao' n cap')).setCell ⟨w.heap.size + 1 + 1, 0, none⟩ (.int .u8 S.k)).setCell ⟨w.heap.size + 1 + 1, 1, none⟩ (.int .i32 S.v)).drew
    have z0 := ((Z.other (q := ⟨w.heap.size + 1 + 1, 0, none⟩) (by simp) (.int .u8 S.k)).other (q := ⟨w.heap.size + 1 + 1, 1, none⟩) (by simp) (.int .i32 S.v))
    have y := Z2.set2 S.k S.v
    have f := SW.fin2 HSD (Nat.le_succ _) (by omega) (by omega) (by omega) (t := S.t) (b := .slice ao' n cap') (x := .int .u8 S.k) (y := .int .i32 S.v)
    generalize (((setT w5 (w.heap.size + 1) S.t (.slice ao' n cap')).setCell ⟨w.heap.size + 1 + 1, 0, none⟩ (.int .u8 S.k)).setCell ⟨w.heap.size + 1 + 1, 1, none⟩ (.int .i32 S.v)) = w7 at *
    have z := z0.drew
    have y' : RB w7.drew (w.heap.size + 1 + 1) S.k S.v := y
    refine bodyPost_ret (v := .tuple #[thV S.t (.slice ao' n cap'), .agg #[.int .u8 S.k, .int .i32 S.v], .bool S.d]) (by simp [results, Try.results21, go_sem, thV, z.c0, z.c1, z.c2, z.c3, z.c4, z.c5, z.c6, z.c7, z.c8, z.c9, z.c10, z.c11, z.c12, y.c0, y.c1]) rfl ?_
    obtain ⟨⟨u, m7, wr7, lt7⟩, i7⟩ := f
    exact ⟨ao', cap', by rw [HSE.out], by rw [HSE.out]; exact ⟨u, m7.drew, wr7.drew, lt7⟩, ⟨i7.1, i7.2⟩, fun hp a ha => Nat.le_trans (Nat.le_add_right _ 3) (HLW.out hp a ha), HCP.out.2.2.2⟩
  · rw [decide_eq_false hp]
    have h5 : TM w2 B p w2.heap.size v0 size (stp size t zs).t (.slice ao' n cap') (stp size t zs).k (stp size t zs).v (stp size t zs).d (stp size t zs).zs (st + (stp size t zs).c) w4 := by
      rw [stp0 size t zs (by omega)]
      simpa using H4.out
    clear hp
    obtain ⟨w5, hw5⟩ : ∃ w5, w5 = w4 := ⟨_, rfl⟩
    rw [← hw5] at h5 ⊢
    clear hw5
    have HS := Lib.hid (SW.of HM.out HB2.out h5 HXY.out.2.1 HXY.out.2.2 HCP.out.1 HLW.out HS2.out (Nat.le_succ _) (by omega) rfl)
    clear h5 H4
    obtain ⟨S, hS⟩ : ∃ S, stp size t zs = S := ⟨_, rfl⟩
    rw [hS] at HS
    have HSE := Lib.hid hS
    clear hS
    go_wp2
    have x := HS.out.box
    have c0 := x.c0
    have c1 := x.c1
    have c2 := x.c2
    have c3 := x.c3
    have c4 := x.c4
    have c5 := x.c5
    have c6 := x.c6
    have c7 := x.c7
    have c8 := x.c8
    have c9 := x.c9
    have c10 := x.c10
    have c11 := x.c11
    have c12 := x.c12
    have c13 := x.c13
    have c14 := x.c14
    have c15 := x.c15
    have c16 := x.c16
    have y := HS.out.y
    have yf := y.f
    have r0 := y.c0
    have r1 := y.c1
    have r2 := y.c2
    have r3 := y.c3
    have r4 := y.c4
    have r5 := y.c5
    have r6 := y.c6
    have r7 := y.c7
    have r8 := y.c8
    have r9 := y.c9
    have r10 := y.c10
    have r11 := y.c11
    have r12 := y.c12
    have q0 := HS.out.r.c0
    have q1 := HS.out.r.c1
    have qf := HS.out.r.f
    have hne : ¬ w2.heap.size = w.heap.size + 1 := by have := HS2.out; omega
    have hne2 : ¬ w2.heap.size = w.heap.size + 1 + 1 := by have := HS2.out; omega
    clear x y c13
    go_region
    go_wp2
    have HSD := HS.out
    have Z := HSD.y.all S.t (.slice ao' n cap')
    have Z2 : RB (setT w5 (w.heap.size + 1) S.t (.slice ao' n cap')) (w.heap.size + 1 + 1) 0 0 := (setT_other w5 (by omega) _ _).trans HSD.r
    change bodyPost _ _ _ _ _ (((setT w5 (w.heap.size + 1) S.t (.slice ao' n cap')).setCell ⟨w.heap.size + 1 + 1, 0, none⟩ (.int .u8 S.k)).setCell ⟨w.heap.size + 1 + 1, 1, none⟩ (.int .i32 S.v)).drew
    have z0 := ((Z.other (q := ⟨w.heap.size + 1 + 1, 0, none⟩) (by simp) (.int .u8 S.k)).other (q := ⟨w.heap.size + 1 + 1, 1, none⟩) (by simp) (.int .i32 S.v))
    have y := Z2.set2 S.k S.v
    have f := SW.fin2 HSD (Nat.le_succ _) (by omega) (by omega) (by omega) (t := S.t) (b := .slice ao' n cap') (x := .int .u8 S.k) (y := .int .i32 S.v)
    generalize (((setT w5 (w.heap.size + 1) S.t (.slice ao' n cap')).setCell ⟨w.heap.size + 1 + 1, 0, none⟩ (.int .u8 S.k)).setCell ⟨w.heap.size + 1 + 1, 1, none⟩ (.int .i32 S.v)) = w7 at *
    have z := z0.drew
    have y' : RB w7.drew (w.heap.size + 1 + 1) S.k S.v := y
    refine bodyPost_ret (v := .tuple #[thV S.t (.slice ao' n cap'), .agg #[.int .u8 S.k, .int .i32 S.v], .bool S.d]) (by simp [results, Try.results21, go_sem, thV, z.c0, z.c1, z.c2, z.c3, z.c4, z.c5, z.c6, z.c7, z.c8, z.c9, z.c10, z.c11, z.c12, y.c0, y.c1]) rfl ?_
    obtain ⟨⟨u, m7, wr7, lt7⟩, i7⟩ := f
    exact ⟨ao', cap', by rw [HSE.out], by rw [HSE.out]; exact ⟨u, m7.drew, wr7.drew, lt7⟩, ⟨i7.1, i7.2⟩, fun hp a ha => Nat.le_trans (Nat.le_add_right _ 3) (HLW.out hp a ha), HCP.out.2.2.2⟩

end Go.Proofs.Ythefdglocnalhaa.M2
