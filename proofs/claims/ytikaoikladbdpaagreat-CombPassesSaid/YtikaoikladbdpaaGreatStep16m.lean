/-
  Serves and Step of package comb: what a step makes of a thread, of the memory, and (place 36) of the object. Conditions: a memory as Mem says, an object as Ob says, its values of 32 bits; a batch of at most a thousand items, that lies in memory; steps below a million.
-/
import Derived.Test.YtikaoikladbdpaaGreatTrnF16m
import Derived.BigRegion
namespace Go.Proofs.YtikaoikladbdpaaGreat.M2
open Go.RowKit

set_option maxRecDepth 100000 in
set_option maxHeartbeats 1600000 in
theorem servesO (w : World) (t : Th) (b : Value) (hb : ∃ ao n cap, b = .slice ao n cap) : Calls Tryz.prog 35 #[thV t b] w fun e w' => e = .returned (.bool (decide (20 ≤ t.pc ∧ t.pc ≤ 39))) ∧ Below w.heap.size w w' := by
  unfold thV
  obtain ⟨ao, n, cap, rfl⟩ := hb
  have HB := Lib.hid (show Below w.heap.size w (w.alloc (.cells #[.int .i64 t.ti, .int .i64 t.pc, .int .i64 t.rc, .int .i64 t.sq, .int .i64 t.wo, .int .i64 t.lk, .int .i64 t.cu, .int .i64 t.pv, .int .i64 t.nt, .int .i64 t.mx, .int .i64 t.ps, .int .i64 t.rn, .slice ao n cap] 25)) from (Below.refl _ _).alloc (Nat.le_refl _) _)
  rcases (show t.pc < 20 ∨ (20 ≤ t.pc ∧ 39 < t.pc) ∨ (20 ≤ t.pc ∧ t.pc ≤ 39) from by omega) with h | h | h
  · have e : decide (20 ≤ t.pc ∧ t.pc ≤ 39) = false := decide_eq_false (by omega)
    rw [e]
    clear e
    have h1 : decide (20 ≤ t.pc) = false := decide_eq_false (by omega)
    generalize t.pc = y at *
    go_enter Tryz.func35, Tryz.ntmps35
    go_wp2
    go_ret
    exact ⟨rfl, HB.out⟩
  · have e : decide (20 ≤ t.pc ∧ t.pc ≤ 39) = false := decide_eq_false (by omega)
    rw [e]
    clear e
    obtain ⟨h1, h2⟩ := h
    have h3 : decide (20 ≤ t.pc) = true := decide_eq_true h1
    have h4 : decide (t.pc ≤ 39) = false := decide_eq_false (by omega)
    generalize t.pc = y at *
    go_enter Tryz.func35, Tryz.ntmps35
    go_wp2
    go_ret
    exact ⟨rfl, HB.out⟩
  · have e : decide (20 ≤ t.pc ∧ t.pc ≤ 39) = true := decide_eq_true h
    rw [e]
    clear e
    obtain ⟨h1, h2⟩ := h
    have h3 : decide (20 ≤ t.pc) = true := decide_eq_true h1
    have h4 : decide (t.pc ≤ 39) = true := decide_eq_true h2
    generalize t.pc = y at *
    go_enter Tryz.func35, Tryz.ntmps35
    go_wp2
    go_ret
    exact ⟨rfl, HB.out⟩

theorem sc_os (w : World) (q : Addr) (v : Value) : (w.setCell q v).os = w.os := rfl
theorem sc_tape (w : World) (q : Addr) (v : Value) : (w.setCell q v).tape = w.tape := rfl
theorem sc_output (w : World) (q : Addr) (v : Value) : (w.setCell q v).output = w.output := rfl
theorem setT_ot (w : World) (g : Nat) (t : Th) (b : Value) : (setT w g t b).os = w.os ∧ (setT w g t b).tape = w.tape ∧ (setT w g t b).output = w.output := by
  simp only [setT, sc_os, sc_tape, sc_output, and_self]
theorem wroteT (w : World) (g : Nat) (t : Th) (b : Value) : _root_.Go.Proofs.YtikaoikladbdpaaGreat.Wrote (fun q => q = g) w (setT w g t b) :=
  ⟨(setT_ot w g t b).1, (setT_ot w g t b).2.1, (setT_ot w g t b).2.2, by rw [setT_size]; exact Nat.le_refl _, fun q _ hq => setT_other w hq t b⟩

section
variable {w a : World} {B p g M : Nat} {v0 b b' : Value} {size : Int} {zs : List Int} {st : Int} {t t' : Th} {l : List It3}
theorem Did.setT (d : Did B p v0 size zs st w a) (hg : TX a g t b) (lo : w.heap.size ≤ g) (t' : Th) (b' : Value) : Did B p v0 size zs st w (setT a g t' b') := by
  obtain ⟨u, m, wr, lt⟩ := d
  have ne : ∀ {k : Nat} {cs : Array Value} {ty : TypeId}, a.heap[k]? = some (Obj.cells cs ty (0, 0)) → ty ≠ 25 → k ≠ g := fun {k cs ty} e hty h => by
    subst h
    unfold TX at hg
    rw [hg] at e
    simp only [Option.some.injEq, Obj.cells.injEq] at e
    exact hty e.2.1.symm
  have ot := setT_ot a g t' b'
  refine ⟨u, m.keep (setT_other a (ne m.block (by decide)) t' b') (fun q hq => ?_), ⟨ot.1.trans wr.os, ot.2.1.trans wr.tape, ot.2.2.trans wr.output, by rw [setT_size]; exact wr.size, fun k hk h1 h2 => (setT_other a (by omega) t' b').trans (wr.block k hk h1 h2)⟩, lt⟩
  rcases m.own.2 with ⟨rfl, _⟩ | ⟨g', cap, cur, rfl, _, hgg, _⟩
  · simp [Value.ownBlock] at hq
  · simp only [Value.ownBlock, Option.some.injEq] at hq
    subst hq
    exact setT_other a (ne hgg (by decide)) t' b'
theorem BR.setT {bb : Value} (r : BR M a bb l) (hg : TX a g t b) (t' : Th) (b' : Value) : BR M (setT a g t' b') bb l := r.keep fun q hq => by
  obtain ⟨cs, hc⟩ := r.block hq
  refine setT_other a (fun e => ?_) t' b'
  subst e
  unfold TX at hg
  rw [hg] at hc
  simp at hc
theorem Did.drewW (d : Did B p v0 size zs st w a) : Did B p v0 size zs st w a.drew := by
  obtain ⟨u, m, wr, lt⟩ := d
  exact ⟨u, m.drew, wr.drew, lt⟩
theorem BR.drewW {bb : Value} (r : BR M a bb l) : BR M a.drew bb l := r
theorem Did.after {W : World} (hb : Below w.heap.size w W) (d : Did B p v0 size zs st W a) : Did B p v0 size zs st w a :=
  Did.comp (v := v0) ⟨hb.os, hb.tape, hb.output, hb.size, fun k hk _ _ => hb.block k hk⟩ (Later.refl _ _) d
theorem BR.low {M' : Nat} {bb : Value} (r : BR M a bb l) (h : M' ≤ M) : BR M' a bb l := by
  refine ⟨r.1, ?_⟩
  rcases r.2 with hn | ⟨q, c, cur, e, hl, x⟩
  · exact .inl hn
  · exact .inr ⟨q, c, cur, e, Nat.le_trans h hl, x⟩
end

def StepC (w : World) (B p : Nat) (v0 : Value) (size : Int) (S : Cs) (st : Int) (e : Ending) (w' : World) : Prop :=
  ∃ b', e = .returned (.tuple #[thV S.t b', .slice none 0 0]) ∧ BR w.heap.size w' b' S.l ∧ Did B p v0 size S.zs (st + S.c) w w'
def StepD (w : World) (F : Nat → Prop) (t : Th) (o : Nat) (k m : Int) (pl : Bool) (s : List It × List Bool) (l : List It3) (e : Ending) (w' : World) : Prop :=
  ∃ b' dn F', e = .returned (.tuple #[thV { t with nt := 0, pc := 37 } b', dn]) ∧ BR w.heap.size w' b' (doL k m s l) ∧ BR w.heap.size w' dn (doL k m s l) ∧ Ob w' F' o k m pl (objS k m s (opsW l)) ∧
    (∀ g, b'.ownBlock = some g → ¬ F' g) ∧ (∀ g, dn.ownBlock = some g → ¬ F' g) ∧ _root_.Go.Proofs.YtikaoikladbdpaaGreat.Wrote F w w' ∧ _root_.Go.Proofs.YtikaoikladbdpaaGreat.Later F F' w

set_option maxRecDepth 100000 in
set_option maxHeartbeats 16000000 in
theorem stepC (w : World) {B p o : Nat} {v0 : Value} {size : Int} {zs : List Int} {st : Int} (m : Mem w B p v0 size zs st) (pa : Int) (t : Th) (ao : Option Addr) (n cap : Nat) (l : List It3) (h : Its w ao n l) (hc : ao = none → cap = 0) (hl : l.length ≤ 1000) (hp : t.pc ≠ 36) (k0 : 0 ≤ st) (k1 : st < 1000000) :
    Calls Tryz.prog 18 #[.pointer (some ⟨p, 0, none⟩), .pointer (some ⟨o, 0, none⟩), .int .i64 pa, thV t (.slice ao n cap)] w (StepC w B p v0 size (cst pa t zs l) st) := by
  have hn : n ≤ 1000 := by have := h.1; omega
  have HM := Lib.hid m
  have HP := Lib.hid hp
  clear m hp
  have HV := Lib.hid (show thV t (.slice ao n cap) = .agg #[.int .i64 t.ti, .int .i64 t.pc, .int .i64 t.rc, .int .i64 t.sq, .int .i64 t.wo, .int .i64 t.lk, .int .i64 t.cu, .int .i64 t.pv, .int .i64 t.nt, .int .i64 t.mx, .int .i64 t.ps, .int .i64 t.rn, .slice ao n cap] from rfl)
  rw [HV.out]
  have H := Lib.hid h
  have HC := Lib.hid hc
  clear h hc
  go_enter Tryz.func18, Tryz.ntmps18
  go_upto_region 2 with (fail)
  generalize hW0 : (w.alloc (.cells #[.int .i64 t.ti, .int .i64 t.pc, .int .i64 t.rc, .int .i64 t.sq, .int .i64 t.wo, .int .i64 t.lk, .int .i64 t.cu, .int .i64 t.pv, .int .i64 t.nt, .int .i64 t.mx, .int .i64 t.ps, .int .i64 t.rn, .slice ao n cap] 25)) = W0
  have HX0 := TX.new w t (.slice ao n cap)
  rw [hW0] at HX0
  have hb0 : Below w.heap.size w W0 := by subst hW0; exact (Below.refl _ _).alloc (Nat.le_refl _) _
  have hs0 : W0.heap.size = w.heap.size + 1 := by subst hW0; simp
  generalize hW1 : W0.alloc (.cells #[.int .i64 0, .int .i64 0, .int .i64 0, .int .i64 0, .int .i64 0, .int .i64 0, .int .i64 0, .int .i64 0, .int .i64 0, .int .i64 0, .int .i64 0, .int .i64 0, .slice none 0 0] 25) = W1
  have HY1 : TX W1 (w.heap.size + 1) t0 (.slice none 0 0) := by
    have := TX.new W0 t0 (.slice none 0 0)
    rw [hs0] at this
    rw [← hW1]
    exact this
  have HX1 := HX0.keep (show Below W0.heap.size W0 W1 by subst hW1; exact (Below.refl _ _).alloc (Nat.le_refl _) _)
  have hb1 : Below w.heap.size w W1 := hb0.trans (by subst hW1; exact (Below.refl _ _).alloc (by omega) _)
  have hs1 : W1.heap.size = w.heap.size + 1 + 1 := by subst hW1; simp [hs0]
  generalize hW2 : W1.alloc (.cells #[.int .i64 t.ti, .int .i64 t.pc, .int .i64 t.rc, .int .i64 t.sq, .int .i64 t.wo, .int .i64 t.lk, .int .i64 t.cu, .int .i64 t.pv, .int .i64 t.nt, .int .i64 t.mx, .int .i64 t.ps, .int .i64 t.rn, .slice ao n cap, .pointer (some ⟨p, 0, none⟩), .pointer (some ⟨o, 0, none⟩), .int .i64 pa, .slice none 0 0] 109) = W2
  have HT2 : TC W2 (w.heap.size + 1 + 1) p t (.slice ao n cap) (.pointer (some ⟨o, 0, none⟩)) pa (.slice none 0 0) := by rw [← hs1]; subst hW2; exact TC.new W1 p t _ _ pa _
  have hb12 : Below W1.heap.size W1 W2 := by subst hW2; exact (Below.refl _ _).alloc (Nat.le_refl _) _
  have HX2 := HX1.keep hb12
  have hb2 : Below w.heap.size w W2 := hb1.trans (hb12.mono (by omega))
  have hs2 : W2.heap.size = w.heap.size + 3 := by subst hW2; simp [hs1]
  have HB1 := Lib.hid hb1
  have HS1 := Lib.hid hs1
  have HB12 := Lib.hid hb12
  have HS2 := Lib.hid hs2
  have HY := Lib.hid HY1
  have HX := Lib.hid HX2
  have HT := Lib.hid HT2
  have C := cloneR W2 ao n cap l (H.out.keep hb2) (by omega) HC.out
  have c12 := HX2.c12
  clear hW0 hW1 hW2 HX0 hb0 hs0 HY1 HX1 hb1 hs1 HT2 hb12 HX2 hb2 hs2
  go_wp2_with fail
  with_reducible refine C.mono ?_
  clear C c12
  rintro e w3 ⟨v, rfl, br, b3⟩
  obtain ⟨av, cv, rfl, _⟩ := br.shape
  have HT3 := (b3.block (w.heap.size + 1 + 1) HT.out.lt).trans HT.out
  have HT3 : TC w3 (w.heap.size + 1 + 1) p t (.slice ao n cap) (.pointer (some ⟨o, 0, none⟩)) pa (.slice none 0 0) := HT3
  have HT4 := HT3.s12 (.slice av l.length cv)
  have hne : ∀ q, q ≠ w.heap.size + 1 + 1 → (w3.setCell ⟨w.heap.size + 1 + 1, 12, none⟩ (.slice av l.length cv)).heap[q]? = w3.heap[q]? := fun q hq => Below.heap_setCell _ _ _ _ hq
  have lt4 : ∀ q, (Value.slice av l.length cv).ownBlock = some q → q ≠ w.heap.size + 1 + 1 := fun q hq => by have := (br.lt q hq).1; have := HS1.out; have := HS2.out; omega
  have BR4 := br.keep (w' := w3.setCell ⟨w.heap.size + 1 + 1, 12, none⟩ (.slice av l.length cv)) (fun q hq => hne q (lt4 q hq))
  have hb14 : Below W1.heap.size W1 (w3.setCell ⟨w.heap.size + 1 + 1, 12, none⟩ (.slice av l.length cv)) := (HB12.out.trans (b3.mono (by have := HS1.out; have := HS2.out; omega))).setCell (by have := HS1.out; exact Nat.le_of_eq this) _
  have HX4 : TX (w3.setCell ⟨w.heap.size + 1 + 1, 12, none⟩ (.slice av l.length cv)) w.heap.size t (.slice ao n cap) := ((hne _ (by have := HS1.out; omega)).trans (b3.block _ HX.out.lt)).trans HX.out
  have d12 := HT3.c12
  have df := HT3.f
  have HX3 : TX w3 w.heap.size t (.slice ao n cap) := (b3.block _ HX.out.lt).trans HX.out
  have HSV := Lib.hid (And.intro HT4 (And.intro BR4 (And.intro hb14 HX4)))
  have HX3' := Lib.hid HX3
  have sz4 : W2.heap.size ≤ w3.heap.size := b3.size
  have HZ4 := Lib.hid sz4
  clear HT3 HT4 hne lt4 BR4 hb14 HX4 HX3 b3 br sz4
  go_upto_region 3 with (fail)
  obtain ⟨w4, hw4⟩ : ∃ w4, w4 = w3.setCell ⟨w.heap.size + 1 + 1, 12, none⟩ (.slice av l.length cv) := ⟨_, rfl⟩
  have hsz : w4.heap.size = w3.heap.size := by rw [hw4]; simp [World.setCell]
  rw [← hw4] at HSV ⊢
  have HSZ := Lib.hid (show W2.heap.size ≤ w4.heap.size by rw [hsz]; exact HZ4.out)
  clear hw4 d12 df hsz HZ4 HX3'
  have A := servesO w4 t (.slice ao n cap) ⟨_, _, _, rfl⟩
  rw [HV.out] at A
  have HA := Lib.hid A
  have x := HSV.out.2.2.2
  have c0 := x.c0
  have c1 := x.c1
  have c2 := x.c2
  have c3 := x.c3
  have c4 := x.c4
  have c5 := x.c5
  have c6 := x.c6
  have c7 := x.c7
  have c8 := x.c8
  have c9 := x.c9
  have c10 := x.c10
  have c11 := x.c11
  have c12 := x.c12
  clear A x
  go_wp2_with fail
  with_reducible refine HA.out.mono ?_
  clear HA c0 c1 c2 c3 c4 c5 c6 c7 c8 c9 c10 c11 c12
  rintro e w5 ⟨rfl, b5⟩
  have H5 : CM W1 W2.heap.size B p (w.heap.size + 1 + 1) v0 size t (.slice av l.length cv) (.pointer (some ⟨o, 0, none⟩)) pa (.slice none 0 0) l zs st w5 := by
    obtain ⟨t4, r4, b14, x4⟩ := HSV.out
    have m1 := HM.out.fresh HB1.out
    have c : CM W1 W2.heap.size B p (w.heap.size + 1 + 1) v0 size t (.slice av l.length cv) (.pointer (some ⟨o, 0, none⟩)) pa (.slice none 0 0) l zs st w4 :=
      ⟨t4, ⟨v0, m1.fresh b14, ⟨b14.os, b14.tape, b14.output, b14.size, fun k hk _ _ => b14.block k hk⟩, Later.refl _ _⟩, Nat.le_of_eq HS1.out, r4, HSZ.out⟩
    exact c.fresh b5
  have H5' := Lib.hid H5
  have hM : W1.heap.size ≤ W2.heap.size := HB12.out.size
  clear H5 b5 HSV
  by_cases hs : 20 ≤ t.pc ∧ t.pc ≤ 39
  · rw [decide_eq_true hs]
    have C := Lib.hid (actC H5'.out hs HP.out hM hl k0 k1)
    clear hs hM
    go_wp2_with fail
    with_reducible refine C.out.mono ?_
    clear C
    rintro e w6 ⟨rfl, b', h6⟩
    have H6 := Lib.hid h6
    clear h6 H5'
    obtain ⟨S, hS⟩ : ∃ S, cst pa t zs l = S := ⟨_, rfl⟩
    rw [hS] at H6
    have HSE := Lib.hid hS
    clear hS
    obtain ⟨ab, cb, hbs, _⟩ := H6.out.row.shape
    have HY6 := Lib.hid (show TX w6 (w.heap.size + 1) t0 (.slice none 0 0) by
      obtain ⟨u, m6, wr6, lt6⟩ := H6.out.did
      have m1 := HM.out
      exact (wr6.block _ (by have := HS1.out; omega) (fun e => by have := m1.lt; omega) (fun e => by have := (m1.rowLt e).2; omega)).trans HY.out)
    have HBX := Lib.hid H6.out.box
    rw [hbs] at HBX
    go_wp2
    have x := HBX.out
    have c0 := x.c0
    have c1 := x.c1
    have c2 := x.c2
    have c3 := x.c3
    have c4 := x.c4
    have c5 := x.c5
    have c6 := x.c6
    have c7 := x.c7
    have c8 := x.c8
    have c9 := x.c9
    have c10 := x.c10
    have c11 := x.c11
    have c12 := x.c12
    have c16 := x.c16
    have y := HY6.out
    have yf := y.f
    have r0 := y.c0
    have r1 := y.c1
    have r2 := y.c2
    have r3 := y.c3
    have r4 := y.c4
    have r5 := y.c5
    have r6 := y.c6
    have r7 := y.c7
    have r8 := y.c8
    have r9 := y.c9
    have r10 := y.c10
    have r11 := y.c11
    have r12 := y.c12
    have hne : ¬ w.heap.size + 1 + 1 = w.heap.size + 1 := by omega
    clear x y
    go_region
    go_wp2
    change bodyPost _ _ _ _ _ (setT w6 (w.heap.size + 1) S.t (.slice ab S.l.length cb)).drew
    have Z := (HY6.out.all S.t (.slice ab S.l.length cb)).drew
    have HZ := Lib.hid (HY6.out)
    clear r0 r1 r2 r3 r4 r5 r6 r7 r8 r9 r10 r11 r12 c0 c1 c2 c3 c4 c5 c6 c7 c8 c9 c10 c11 c12 c16 yf
    refine bodyPost_ret (v := .tuple #[thV S.t (.slice ab S.l.length cb), .slice none 0 0]) (by simp [results, Tryz.results18, go_sem, thV, Z.c0, Z.c1, Z.c2, Z.c3, Z.c4, Z.c5, Z.c6, Z.c7, Z.c8, Z.c9, Z.c10, Z.c11, Z.c12]) rfl ?_
    refine ⟨.slice ab S.l.length cb, by rw [HSE.out], ?_, ?_⟩
    · rw [HSE.out]
      have r := H6.out.row
      rw [hbs] at r
      exact ((r.low (by have := HS2.out; omega)).setT HZ.out S.t (.slice ab S.l.length cb)).drewW
    · rw [HSE.out]
      exact ((Did.after HB1.out H6.out.did).setT HZ.out (Nat.le_succ _) S.t (.slice ab S.l.length cb)).drewW

  · rw [decide_eq_false hs]
    obtain ⟨w6, hw6⟩ : ∃ w6, w6 = w5 := ⟨_, rfl⟩
    have h6 : CM W1 W2.heap.size B p (w.heap.size + 1 + 1) v0 size (cst pa t zs l).t (.slice av l.length cv) (.pointer (some ⟨o, 0, none⟩)) pa (.slice none 0 0) (cst pa t zs l).l (cst pa t zs l).zs (st + (cst pa t zs l).c) w6 := by
      rw [cst0 pa t zs l (by omega), hw6]
      simpa using H5'.out
    rw [← hw6]
    have H6 := Lib.hid h6
    obtain ⟨b', hb'⟩ : ∃ b', b' = Value.slice av l.length cv := ⟨_, rfl⟩
    rw [← hb'] at H6
    clear h6 H5' hs hM hw6 hb'
    obtain ⟨S, hS⟩ : ∃ S, cst pa t zs l = S := ⟨_, rfl⟩
    rw [hS] at H6
    have HSE := Lib.hid hS
    clear hS
    obtain ⟨ab, cb, hbs, _⟩ := H6.out.row.shape
    have HY6 := Lib.hid (show TX w6 (w.heap.size + 1) t0 (.slice none 0 0) by
      obtain ⟨u, m6, wr6, lt6⟩ := H6.out.did
      have m1 := HM.out
      exact (wr6.block _ (by have := HS1.out; omega) (fun e => by have := m1.lt; omega) (fun e => by have := (m1.rowLt e).2; omega)).trans HY.out)
    have HBX := Lib.hid H6.out.box
    rw [hbs] at HBX
    go_wp2
    have x := HBX.out
    have c0 := x.c0
    have c1 := x.c1
    have c2 := x.c2
    have c3 := x.c3
    have c4 := x.c4
    have c5 := x.c5
    have c6 := x.c6
    have c7 := x.c7
    have c8 := x.c8
    have c9 := x.c9
    have c10 := x.c10
    have c11 := x.c11
    have c12 := x.c12
    have c16 := x.c16
    have y := HY6.out
    have yf := y.f
    have r0 := y.c0
    have r1 := y.c1
    have r2 := y.c2
    have r3 := y.c3
    have r4 := y.c4
    have r5 := y.c5
    have r6 := y.c6
    have r7 := y.c7
    have r8 := y.c8
    have r9 := y.c9
    have r10 := y.c10
    have r11 := y.c11
    have r12 := y.c12
    have hne : ¬ w.heap.size + 1 + 1 = w.heap.size + 1 := by omega
    clear x y
    go_region
    go_wp2
    change bodyPost _ _ _ _ _ (setT w6 (w.heap.size + 1) S.t (.slice ab S.l.length cb)).drew
    have Z := (HY6.out.all S.t (.slice ab S.l.length cb)).drew
    have HZ := Lib.hid (HY6.out)
    clear r0 r1 r2 r3 r4 r5 r6 r7 r8 r9 r10 r11 r12 c0 c1 c2 c3 c4 c5 c6 c7 c8 c9 c10 c11 c12 c16 yf
    refine bodyPost_ret (v := .tuple #[thV S.t (.slice ab S.l.length cb), .slice none 0 0]) (by simp [results, Tryz.results18, go_sem, thV, Z.c0, Z.c1, Z.c2, Z.c3, Z.c4, Z.c5, Z.c6, Z.c7, Z.c8, Z.c9, Z.c10, Z.c11, Z.c12]) rfl ?_
    refine ⟨.slice ab S.l.length cb, by rw [HSE.out], ?_, ?_⟩
    · rw [HSE.out]
      have r := H6.out.row
      rw [hbs] at r
      exact ((r.low (by have := HS2.out; omega)).setT HZ.out S.t (.slice ab S.l.length cb)).drewW
    · rw [HSE.out]
      exact ((Did.after HB1.out H6.out.did).setT HZ.out (Nat.le_succ _) S.t (.slice ab S.l.length cb)).drewW


set_option maxRecDepth 100000 in
set_option maxHeartbeats 16000000 in
theorem stepD (w : World) {p o : Nat} {F : Nat → Prop} {k m : Int} {pl : Bool} {s : List It × List Bool} (x : Ob w F o k m pl s) (hv : V32 (vals s.1)) (pa : Int) (t : Th) (ao : Option Addr) (n cap : Nat) (l : List It3) (h : Its w ao n l) (hc : ao = none → cap = 0) (hl : l.length ≤ 1000) (hp : t.pc = 36) :
    Calls Tryz.prog 18 #[.pointer (some ⟨p, 0, none⟩), .pointer (some ⟨o, 0, none⟩), .int .i64 pa, thV t (.slice ao n cap)] w (StepD w F t o k m pl s l) := by
  have hn : n ≤ 1000 := by have := h.1; omega
  have HOB := Lib.hid x
  have HP := Lib.hid hp
  clear x hp
  have HV := Lib.hid (show thV t (.slice ao n cap) = .agg #[.int .i64 t.ti, .int .i64 t.pc, .int .i64 t.rc, .int .i64 t.sq, .int .i64 t.wo, .int .i64 t.lk, .int .i64 t.cu, .int .i64 t.pv, .int .i64 t.nt, .int .i64 t.mx, .int .i64 t.ps, .int .i64 t.rn, .slice ao n cap] from rfl)
  rw [HV.out]
  have H := Lib.hid h
  have HC := Lib.hid hc
  clear h hc
  go_enter Tryz.func18, Tryz.ntmps18
  go_upto_region 2 with (fail)
  generalize hW0 : (w.alloc (.cells #[.int .i64 t.ti, .int .i64 t.pc, .int .i64 t.rc, .int .i64 t.sq, .int .i64 t.wo, .int .i64 t.lk, .int .i64 t.cu, .int .i64 t.pv, .int .i64 t.nt, .int .i64 t.mx, .int .i64 t.ps, .int .i64 t.rn, .slice ao n cap] 25)) = W0
  have HX0 := TX.new w t (.slice ao n cap)
  rw [hW0] at HX0
  have hb0 : Below w.heap.size w W0 := by subst hW0; exact (Below.refl _ _).alloc (Nat.le_refl _) _
  have hs0 : W0.heap.size = w.heap.size + 1 := by subst hW0; simp
  generalize hW1 : W0.alloc (.cells #[.int .i64 0, .int .i64 0, .int .i64 0, .int .i64 0, .int .i64 0, .int .i64 0, .int .i64 0, .int .i64 0, .int .i64 0, .int .i64 0, .int .i64 0, .int .i64 0, .slice none 0 0] 25) = W1
  have HY1 : TX W1 (w.heap.size + 1) t0 (.slice none 0 0) := by
    have := TX.new W0 t0 (.slice none 0 0)
    rw [hs0] at this
    rw [← hW1]
    exact this
  have HX1 := HX0.keep (show Below W0.heap.size W0 W1 by subst hW1; exact (Below.refl _ _).alloc (Nat.le_refl _) _)
  have hb1 : Below w.heap.size w W1 := hb0.trans (by subst hW1; exact (Below.refl _ _).alloc (by omega) _)
  have hs1 : W1.heap.size = w.heap.size + 1 + 1 := by subst hW1; simp [hs0]
  generalize hW2 : W1.alloc (.cells #[.int .i64 t.ti, .int .i64 t.pc, .int .i64 t.rc, .int .i64 t.sq, .int .i64 t.wo, .int .i64 t.lk, .int .i64 t.cu, .int .i64 t.pv, .int .i64 t.nt, .int .i64 t.mx, .int .i64 t.ps, .int .i64 t.rn, .slice ao n cap, .pointer (some ⟨p, 0, none⟩), .pointer (some ⟨o, 0, none⟩), .int .i64 pa, .slice none 0 0] 109) = W2
  have HT2 : TC W2 (w.heap.size + 1 + 1) p t (.slice ao n cap) (.pointer (some ⟨o, 0, none⟩)) pa (.slice none 0 0) := by rw [← hs1]; subst hW2; exact TC.new W1 p t _ _ pa _
  have hb12 : Below W1.heap.size W1 W2 := by subst hW2; exact (Below.refl _ _).alloc (Nat.le_refl _) _
  have HX2 := HX1.keep hb12
  have hb2 : Below w.heap.size w W2 := hb1.trans (hb12.mono (by omega))
  have hs2 : W2.heap.size = w.heap.size + 3 := by subst hW2; simp [hs1]
  have HB1 := Lib.hid hb1
  have HS1 := Lib.hid hs1
  have HB12 := Lib.hid hb12
  have HS2 := Lib.hid hs2
  have HY := Lib.hid HY1
  have HX := Lib.hid HX2
  have HT := Lib.hid HT2
  have C := cloneR W2 ao n cap l (H.out.keep hb2) (by omega) HC.out
  have c12 := HX2.c12
  clear hW0 hW1 hW2 HX0 hb0 hs0 HY1 HX1 hb1 hs1 HT2 hb12 HX2 hb2 hs2
  go_wp2_with fail
  with_reducible refine C.mono ?_
  clear C c12
  rintro e w3 ⟨v, rfl, br, b3⟩
  obtain ⟨av, cv, rfl, _⟩ := br.shape
  have HT3 := (b3.block (w.heap.size + 1 + 1) HT.out.lt).trans HT.out
  have HT3 : TC w3 (w.heap.size + 1 + 1) p t (.slice ao n cap) (.pointer (some ⟨o, 0, none⟩)) pa (.slice none 0 0) := HT3
  have HT4 := HT3.s12 (.slice av l.length cv)
  have hne : ∀ q, q ≠ w.heap.size + 1 + 1 → (w3.setCell ⟨w.heap.size + 1 + 1, 12, none⟩ (.slice av l.length cv)).heap[q]? = w3.heap[q]? := fun q hq => Below.heap_setCell _ _ _ _ hq
  have lt4 : ∀ q, (Value.slice av l.length cv).ownBlock = some q → q ≠ w.heap.size + 1 + 1 := fun q hq => by have := (br.lt q hq).1; have := HS1.out; have := HS2.out; omega
  have BR4 := br.keep (w' := w3.setCell ⟨w.heap.size + 1 + 1, 12, none⟩ (.slice av l.length cv)) (fun q hq => hne q (lt4 q hq))
  have hb14 : Below W1.heap.size W1 (w3.setCell ⟨w.heap.size + 1 + 1, 12, none⟩ (.slice av l.length cv)) := (HB12.out.trans (b3.mono (by have := HS1.out; have := HS2.out; omega))).setCell (by have := HS1.out; exact Nat.le_of_eq this) _
  have HX4 : TX (w3.setCell ⟨w.heap.size + 1 + 1, 12, none⟩ (.slice av l.length cv)) w.heap.size t (.slice ao n cap) := ((hne _ (by have := HS1.out; omega)).trans (b3.block _ HX.out.lt)).trans HX.out
  have d12 := HT3.c12
  have df := HT3.f
  have HX3 : TX w3 w.heap.size t (.slice ao n cap) := (b3.block _ HX.out.lt).trans HX.out
  have HSV := Lib.hid (And.intro HT4 (And.intro BR4 (And.intro hb14 HX4)))
  have HX3' := Lib.hid HX3
  have sz4 : W2.heap.size ≤ w3.heap.size := b3.size
  have HZ4 := Lib.hid sz4
  clear HT3 HT4 hne lt4 BR4 hb14 HX4 HX3 b3 br sz4
  go_upto_region 3 with (fail)
  obtain ⟨w4, hw4⟩ : ∃ w4, w4 = w3.setCell ⟨w.heap.size + 1 + 1, 12, none⟩ (.slice av l.length cv) := ⟨_, rfl⟩
  have hsz : w4.heap.size = w3.heap.size := by rw [hw4]; simp [World.setCell]
  rw [← hw4] at HSV ⊢
  have HSZ := Lib.hid (show W2.heap.size ≤ w4.heap.size by rw [hsz]; exact HZ4.out)
  clear hw4 d12 df hsz HZ4 HX3'
  have A := servesO w4 t (.slice ao n cap) ⟨_, _, _, rfl⟩
  rw [HV.out] at A
  have HA := Lib.hid A
  have x := HSV.out.2.2.2
  have c0 := x.c0
  have c1 := x.c1
  have c2 := x.c2
  have c3 := x.c3
  have c4 := x.c4
  have c5 := x.c5
  have c6 := x.c6
  have c7 := x.c7
  have c8 := x.c8
  have c9 := x.c9
  have c10 := x.c10
  have c11 := x.c11
  have c12 := x.c12
  clear A x
  go_wp2_with fail
  with_reducible refine HA.out.mono ?_
  clear HA c0 c1 c2 c3 c4 c5 c6 c7 c8 c9 c10 c11 c12
  rintro e w5 ⟨rfl, b5⟩
  rw [decide_eq_true (by have := HP.out; omega)]
  have HSV5 := Lib.hid (show TC w5 (w.heap.size + 1 + 1) p t (.slice av l.length cv) (.pointer (some ⟨o, 0, none⟩)) pa (.slice none 0 0) ∧ BR W2.heap.size w5 (.slice av l.length cv) l ∧ Below W1.heap.size W1 w5 from
    ⟨(b5.block _ HSV.out.1.lt).trans HSV.out.1, HSV.out.2.1.below b5, HSV.out.2.2.1.trans (b5.mono HSV.out.2.2.1.size)⟩)
  have hB5 : Below w.heap.size w w5 := HB1.out.trans (HSV5.out.2.2.mono (by have := HS1.out; omega))
  have C := Lib.hid (actD HSV5.out.1 HSV5.out.2.1 (HOB.out.fresh hB5) hv (fun hf => by have := HOB.out.foot _ hf; have := HS1.out; omega) (fun g hg hf => by have := HOB.out.foot _ hf; have := (HSV5.out.2.1.lt g hg).1; have := HS2.out; omega) hl HP.out)
  have HB5 := Lib.hid hB5
  clear hB5 b5 HSV
  go_wp2_with fail
  with_reducible refine C.out.mono ?_
  clear C
  rintro e w6 ⟨rfl, b', dn, F', x6, r6, q6, o6, nb, nd, nN, wr6, lt6⟩
  · obtain ⟨ab, cb, rfl, _⟩ := r6.shape
    obtain ⟨ad, cd, rfl, _⟩ := q6.shape
    have HBX := Lib.hid x6
    have HY6 := Lib.hid (show TX w6 (w.heap.size + 1) t0 (.slice none 0 0) from
      (wr6.block _ (by have := HSV5.out.2.2.size; have := HS1.out; omega) (fun e => by
        have h1 := HS1.out
        rcases e with e | e
        · have := HOB.out.foot _ e; omega
        · omega)).trans ((HSV5.out.2.2.block _ (by have := HS1.out; omega)).trans HY.out))
    have HR := Lib.hid (And.intro r6 (And.intro q6 (And.intro o6 (And.intro nb (And.intro nd (And.intro nN (And.intro wr6 lt6)))))))
    clear x6 r6 q6 o6 nb nd nN wr6 lt6
    go_wp2
    have x := HBX.out
    have c0 := x.c0
    have c1 := x.c1
    have c2 := x.c2
    have c3 := x.c3
    have c4 := x.c4
    have c5 := x.c5
    have c6 := x.c6
    have c7 := x.c7
    have c8 := x.c8
    have c9 := x.c9
    have c10 := x.c10
    have c11 := x.c11
    have c12 := x.c12
    have c16 := x.c16
    have y := HY6.out
    have yf := y.f
    have r0 := y.c0
    have r1 := y.c1
    have r2 := y.c2
    have r3 := y.c3
    have r4 := y.c4
    have r5 := y.c5
    have r6 := y.c6
    have r7 := y.c7
    have r8 := y.c8
    have r9 := y.c9
    have r10 := y.c10
    have r11 := y.c11
    have r12 := y.c12
    have hne : ¬ w.heap.size + 1 + 1 = w.heap.size + 1 := by omega
    clear x y
    go_region
    go_wp2
    change bodyPost _ _ _ _ _ (setT w6 (w.heap.size + 1) { t with nt := 0, pc := 37 } (.slice ab (doL k m s l).length cb)).drew
    have Z := (HY6.out.all { t with nt := 0, pc := 37 } (.slice ab (doL k m s l).length cb)).drew
    have HZ := Lib.hid (HY6.out)
    clear r0 r1 r2 r3 r4 r5 r6 r7 r8 r9 r10 r11 r12 c0 c1 c2 c3 c4 c5 c6 c7 c8 c9 c10 c11 c12 c16 yf
    refine bodyPost_ret (v := .tuple #[thV { t with nt := 0, pc := 37 } (.slice ab (doL k m s l).length cb), .slice ad (doL k m s l).length cd]) (by simp [results, Tryz.results18, go_sem, thV, Z.c0, Z.c1, Z.c2, Z.c3, Z.c4, Z.c5, Z.c6, Z.c7, Z.c8, Z.c9, Z.c10, Z.c11, Z.c12]) rfl ?_
    obtain ⟨r6, q6, o6, nb, nd, nN, wr6, lt6⟩ := HR.out
    have lo := HB5.out.size
    have nT : ¬ F' (w.heap.size + 1) := fun hf => by
      rcases lt6 _ hf with h1 | h1
      · have := HOB.out.foot _ h1; omega
      · have := HSV5.out.2.2.size; have := HS1.out; omega
    have wT := wroteT w6 (w.heap.size + 1) { t with nt := 0, pc := 37 } (.slice ab (doL k m s l).length cb)
    have o7 := o6.apart wT (fun q hf e => by have e : q = w.heap.size + 1 := e; subst e; exact nT hf)
    have wr7 : _root_.Go.Proofs.YtikaoikladbdpaaGreat.Wrote F w (setT w6 (w.heap.size + 1) { t with nt := 0, pc := 37 } (.slice ab (doL k m s l).length cb)) :=
      ⟨wT.os.trans (wr6.os.trans HB5.out.os), wT.tape.trans (wr6.tape.trans HB5.out.tape), wT.output.trans (wr6.output.trans HB5.out.output), Nat.le_trans lo (Nat.le_trans wr6.size wT.size), fun q hq hF => (wT.block q (by have := wr6.size; omega) (fun e => by have e : q = w.heap.size + 1 := e; omega)).trans ((wr6.block q (by omega) (fun e => by
        rcases e with e | e
        · exact hF e
        · have := HS1.out; omega)).trans (HB5.out.block q hq))⟩
    exact ⟨_, _, F', rfl, ((r6.low lo).setT HZ.out { t with nt := 0, pc := 37 } (.slice ab (doL k m s l).length cb)).drewW, ((q6.low lo).setT HZ.out { t with nt := 0, pc := 37 } (.slice ab (doL k m s l).length cb)).drewW, o7.fresh (Below.refl _ _).drew, nb, nd, wr7.drew, fun q hf => (lt6 q hf).imp id (fun h => by omega)⟩

end Go.Proofs.YtikaoikladbdpaaGreat.M2
