/-
  A memory and an object side by side; a step of who serves at them, whichever place it is at (Step of package comb). Conditions: a memory as Mem says, an object as Ob says, its values of 32 bits, their blocks apart; at most a thousand items; steps below a million. Who asks again while others are served, step by step, in plain numbers (CombAgain). Conditions: one record, that is on the list; one to five passes. Calls on a memory beside an object; how much longer a step makes a batch, and how many steps it counts. Conditions: a memory and an object as MO says; steps below a million. What the document's own records (package reaperref13) tell: Base, Open, Many, Nth, See; each makes new memory alone. Conditions: at most 1000 cells. What the document's own See and Open (package reaperref13) tell; each makes new memory alone. Conditions: at most 1000 cells. A memory that is filled number by number beside the document's one (reaperlaw13.Memory): both hold the numbers that came in. Conditions: at most 200 numbers. A memory that is filled number by number beside the document's one (reaperlaw13.Memory). Conditions: at most 200 numbers. A memory that is filled number by number beside the document's one (reaperlaw13.Memory), the place of its list told. Conditions: at most 200 numbers.
-/
import Derived.Test.YtkbhemaijbkpbaaGreatStep16m
import Derived.Test.YtkbhemaijbkpbaaGreatG2416
import Derived.Test.YtkbhemaijbkpbaaGreatG2316
import Derived.Deep.RegionHeld3
import Derived.Deep.CutRange
namespace Go.Proofs.YtkbhemaijbkpbaaGreat.M2
open Go.RowKit

/-- What is stepped: the thread, its batch, the cells, the steps, the object's items, what was done by this step. -/
structure SS where
  t : Th
  l : List It3
  zs : List Int
  c : Int
  s : List It × List Bool
  dn : List It3
def ssStep (pa k m : Int) (S : SS) : SS :=
  if S.t.pc = 36 then ⟨{ S.t with nt := 0, pc := 37 }, doL k m S.s S.l, S.zs, S.c, objS k m S.s (opsW S.l), doL k m S.s S.l⟩
  else ⟨(cst pa S.t S.zs S.l).t, (cst pa S.t S.zs S.l).l, (cst pa S.t S.zs S.l).zs, S.c + (cst pa S.t S.zs S.l).c, S.s, []⟩

/-- A memory and an object, all whose blocks are new since w, apart. -/
structure MO (w : World) (p : Nat) (v : Value) (size : Int) (zs : List Int) (st : Int) (F : Nat → Prop) (o : Nat) (k m : Int) (pl : Bool) (s : List It × List Bool) (a : World) : Prop where
  me : Mem a w.heap.size p v size zs st
  ob : Ob a F o k m pl s
  v32 : V32 (vals s.1)
  f : ∀ g, F g → w.heap.size ≤ g
  np : ¬ F p
  nv : ∀ g, v.ownBlock = some g → ¬ F g
  b : Below w.heap.size w a

/-- What is no block of theirs stays. -/
def Kp (F : Nat → Prop) (a b : World) : Prop := ∀ (q : Nat) (cs : Array Value) (ty : TypeId), a.heap[q]? = some (.cells cs ty (0, 0)) → ty ≠ 2 → ty ≠ 117 → ¬ F q → b.heap[q]? = some (.cells cs ty (0, 0))

section
variable {w a b : World} {p o n cap : Nat} {v : Value} {size : Int} {zs zs' : List Int} {st st' : Int} {F F' : Nat → Prop} {k m : Int} {pl : Bool} {s s' : List It × List Bool} {l : List It3}
theorem MO.fresh (h : MO w p v size zs st F o k m pl s a) (hb : Below a.heap.size a b) : MO w p v size zs st F o k m pl s b :=
  ⟨h.me.fresh hb, h.ob.fresh hb, h.v32, h.f, h.np, h.nv, h.b.trans (hb.mono h.b.size)⟩
theorem MO.did (h : MO w p v size zs st F o k m pl s a) (d : Did w.heap.size p v size zs' st' a b) : ∃ v', MO w p v' size zs' st' F o k m pl s b := by
  obtain ⟨v', m', wr, lt⟩ := d
  have hw : _root_.Go.Proofs.YtkbhemaijbkpbaaGreat.Wrote (fun q => q = p ∨ v.ownBlock = some q) a b := ⟨wr.os, wr.tape, wr.output, wr.size, fun q hq hne => wr.block q hq (fun e => hne (.inl e)) (fun e => hne (.inr e))⟩
  refine ⟨v', m', h.ob.apart hw (fun g hg e => ?_), h.v32, h.f, h.np, fun g hg hf => ?_, h.b.trans (wr.below h.b.size h.me.low (fun g hg => (h.me.rowLt hg).1))⟩
  · rcases e with rfl | e
    · exact h.np hg
    · exact h.nv g e hg
  · rcases lt g hg with e | e
    · exact h.nv g e hf
    · have := h.ob.foot g hf; omega
theorem MO.kp (h : MO w p v size zs st F o k m pl s a) (d : Did w.heap.size p v size zs' st' a b) : Kp F a b := fun q cs ty e h1 h2 _ => d.kept h.me q cs ty e h1 h2
theorem MO.done (h : MO w p v size zs st F o k m pl s a) (x : Ob b F' o k m pl s') (hv : V32 (vals s'.1)) (wr : _root_.Go.Proofs.YtkbhemaijbkpbaaGreat.Wrote F a b) (lt : _root_.Go.Proofs.YtkbhemaijbkpbaaGreat.Later F F' a) : MO w p v size zs st F' o k m pl s' b := by
  have rlt := fun g (hg : v.ownBlock = some g) => (h.me.rowLt hg).2
  refine ⟨h.me.keep (wr.block p h.me.lt h.np) (fun g hg => wr.block g (rlt g hg) (h.nv g hg)), x, hv, fun g hg => ?_, fun hf => ?_, fun g hg hf => ?_, h.b.trans (wr.below h.b.size h.f)⟩
  · rcases lt g hg with e | e
    · exact h.f g e
    · exact Nat.le_trans h.b.size e
  · rcases lt p hf with e | e
    · exact h.np e
    · have := h.me.lt; omega
  · rcases lt g hf with e | e
    · exact h.nv g hg e
    · have := rlt g hg; omega
/-- A box of another kind is written to. -/
theorem MO.box (h : MO w p v size zs st F o k m pl s a) {g : Nat} {cs : Array Value} {ty : TypeId} (hg : a.heap[g]? = some (.cells cs ty (0, 0))) (h1 : ty ≠ 2) (h2 : ty ≠ 117) (hF : ¬ F g) (lo : w.heap.size ≤ g) (wr : _root_.Go.Proofs.YtkbhemaijbkpbaaGreat.Wrote (fun q => q = g) a b) : MO w p v size zs st F o k m pl s b := by
  have ne : ∀ {q : Nat} {cs' : Array Value} {ty' : TypeId}, a.heap[q]? = some (Obj.cells cs' ty' (0, 0)) → ty' ≠ ty → b.heap[q]? = a.heap[q]? := fun {q cs' ty'} e hne => wr.block q (lt_of_block e) (fun e2 => by
    have e2 : q = g := e2
    subst e2
    rw [hg] at e
    simp only [Option.some.injEq, Obj.cells.injEq] at e
    exact hne e.2.1.symm)
  refine ⟨h.me.keep (ne h.me.block (Ne.symm h2)) (fun q hq => ?_), h.ob.apart wr (fun q hq e => by have e : q = g := e; subst e; exact hF hq), h.v32, h.f, h.np, h.nv, h.b.trans (wr.below h.b.size (fun q hq => by have hq : q = g := hq; omega))⟩
  rcases h.me.own.2 with ⟨rfl, _⟩ | ⟨g', cap, cur, rfl, _, hgg, _⟩
  · simp [Value.ownBlock] at hq
  · simp only [Value.ownBlock, Option.some.injEq] at hq
    subst hq
    exact ne hgg (Ne.symm h1)
theorem Kp.of (hb : Below a.heap.size a b) : Kp F a b := fun q _ _ e _ _ _ => (hb.block q (lt_of_block e)).trans e
theorem Kp.wrote (wr : _root_.Go.Proofs.YtkbhemaijbkpbaaGreat.Wrote F a b) : Kp F a b := fun q _ _ e _ _ hF => (wr.block q (lt_of_block e) hF).trans e
theorem BR.kp {M : Nat} {x : Value} (r : BR M a x l) (kp : Kp F a b) (hF : ∀ g, x.ownBlock = some g → ¬ F g) : BR M b x l := r.keep fun g hg => by
  obtain ⟨cs, hc⟩ := r.block hg
  exact (kp g _ _ hc (by decide) (by decide) (hF g hg)).trans hc.symm
theorem TX.kp {g : Nat} {t : Th} {x : Value} (r : TX a g t x) (kp : Kp F a b) (hF : ¬ F g) : TX b g t x := kp g _ _ r (by decide) (by decide) hF

/-- What a step tells, and leaves. -/
def StepMO (w : World) (p : Nat) (size : Int) (F : Nat → Prop) (o : Nat) (k m : Int) (pl : Bool) (S : SS) (a : World) (e : Ending) (b : World) : Prop :=
  ∃ v' F' x d, e = .returned (.tuple #[thV S.t x, d]) ∧ MO w p v' size S.zs S.c F' o k m pl S.s b ∧ BR a.heap.size b x S.l ∧ BR a.heap.size b d S.dn ∧ (∀ g, x.ownBlock = some g → ¬ F' g) ∧ (∀ g, d.ownBlock = some g → ¬ F' g) ∧ Kp F a b ∧ _root_.Go.Proofs.YtkbhemaijbkpbaaGreat.Later F F' a ∧ a.heap.size ≤ b.heap.size

theorem stepMO (h : MO w p v size zs st F o k m pl s a) (pa : Int) (t : Th) (ao : Option Addr) (hi : Its a ao n l) (hc : ao = none → cap = 0) (hl : l.length ≤ 1000) (k0 : 0 ≤ st) (k1 : st < 1000000) (dn : List It3) :
    Calls Tryz.prog 18 #[.pointer (some ⟨p, 0, none⟩), .pointer (some ⟨o, 0, none⟩), .int .i64 pa, thV t (.slice ao n cap)] a (StepMO w p size F o k m pl (ssStep pa k m ⟨t, l, zs, st, s, dn⟩) a) := by
  by_cases hp : t.pc = 36
  · have e : ssStep pa k m ⟨t, l, zs, st, s, dn⟩ = ⟨{ t with nt := 0, pc := 37 }, doL k m s l, zs, st, objS k m s (opsW l), doL k m s l⟩ := if_pos hp
    rw [e]
    refine (stepD a h.ob h.v32 pa t ao n cap l hi hc hl hp).mono ?_
    rintro e b ⟨x, d, F', rfl, r1, r2, o', n1, n2, wr, lt⟩
    exact ⟨v, F', x, d, rfl, h.done o' (objS_ok h.v32 (opsW_ok l)) wr lt, r1, r2, n1, n2, Kp.wrote wr, lt, wr.size⟩
  · have e : ssStep pa k m ⟨t, l, zs, st, s, dn⟩ = ⟨(cst pa t zs l).t, (cst pa t zs l).l, (cst pa t zs l).zs, st + (cst pa t zs l).c, s, []⟩ := if_neg hp
    rw [e]
    refine (stepC a h.me pa t ao n cap l hi hc hl hp k0 k1).mono ?_
    rintro e b ⟨x, rfl, r1, d⟩
    obtain ⟨v', h'⟩ := h.did d
    have hsz : a.heap.size ≤ b.heap.size := by obtain ⟨_, _, wr, _⟩ := d; exact wr.size
    exact ⟨v', F, x, _, rfl, h', r1, BR.nil _ _, fun g hg hf => by have := (r1.lt g hg).1; have := h.ob.foot g hf; omega, fun g hg => by simp [Value.ownBlock] at hg, h.kp d, _root_.Go.Proofs.YtkbhemaijbkpbaaGreat.Later.refl _ _, hsz⟩
end

end Go.Proofs.YtkbhemaijbkpbaaGreat.M2
namespace Go.Proofs.YtkbhemaijbkpbaaGreat.M2
open Go.RowKit

/-- A round: a step, a look at REQ, another question where it is 0. -/
def agStep (pa W : Int) (x : SS × Nat) : SS × Nat :=
  if ld (ssStep pa 1 10 x.1).zs 3 = 0 ∧ x.2 < 9 then
    ({ ssStep pa 1 10 x.1 with zs := sto (ssStep pa 1 10 x.1).zs 3 W, c := (ssStep pa 1 10 x.1).c + cn (ssStep pa 1 10 x.1).zs 3 + cn (ssStep pa 1 10 x.1).zs 3 }, x.2 + 1)
  else ({ ssStep pa 1 10 x.1 with c := (ssStep pa 1 10 x.1).c + cn (ssStep pa 1 10 x.1).zs 3 }, x.2)
def agIt (pa W : Int) (x : SS × Nat) : Nat → SS × Nat
  | 0 => x
  | j + 1 => agStep pa W (agIt pa W x j)
/-- Does a thread serve? -/
def srv (S : SS) : Bool := decide (20 ≤ S.t.pc ∧ S.t.pc ≤ 39)

theorem agIt_add (pa W : Int) (x : SS × Nat) (a : Nat) : ∀ b, agIt pa W x (a + b) = agIt pa W (agIt pa W x a) b
  | 0 => rfl
  | b + 1 => by rw [← Nat.add_assoc]; show agStep pa W (agIt pa W x (a + b)) = _; rw [agIt_add pa W x a b]; rfl

theorem ad_small {x : Int} (h0 : 0 ≤ x) (h1 : x ≤ 1000000) : ad x 1 = x + 1 := by unfold ad wrap64; omega

section
variable {pa W ti rc sq wo lk cu pv nt mx ps rn i R A T c : Int} {l dn : List It3} {s : List It × List Bool} {q : Nat}
theorem ag20 (hR : R ≠ 0) : agStep pa W (⟨⟨ti, 20, rc, sq, wo, lk, cu, pv, nt, mx, ps, rn⟩, l, [1, 3, i, R, 1, A, 0, T], c, s, dn⟩, q) = (⟨⟨ti, 21, rc, sq, wo, i, cu, pv, nt, mx, ps, rn⟩, l, [1, 3, i, R, 1, A, 0, T], c + 1 + 1, s, []⟩, q) := by
  simp [agStep, ssStep, cst, ld, cn, hR]
theorem ag21 (hR : R ≠ 0) (h0 : 0 ≤ i) (h1 : i ≤ 10) (h2 : 0 ≤ rn) (h3 : rn ≤ 10) : agStep pa W (⟨⟨ti, 21, rc, sq, wo, i, cu, pv, nt, mx, ps, rn⟩, l, [1, 3, i, R, 1, A, 0, T], c, s, dn⟩, q) = (⟨⟨ti, 22, rc, sq, wo, i, cu, pv, nt, mx, i + 1, rn + 1⟩, l, [1, 3, i + 1, R, 1, A, 0, T], c + 1 + 1, s, []⟩, q) := by
  simp [agStep, ssStep, cst, ld, cn, sto, hR, ad_small h0 (by omega), ad_small h2 (by omega)]
theorem ag22 (hR : R ≠ 0) : agStep pa W (⟨⟨ti, 22, rc, sq, wo, lk, cu, pv, nt, mx, ps, rn⟩, l, [1, 3, i, R, 1, A, 0, T], c, s, dn⟩, q) = (⟨⟨ti, 23, rc, sq, wo, lk, cu, pv, 0, 1, ps, rn⟩, [], [1, 3, i, R, 1, A, 0, T], c + 0 + 1, s, []⟩, q) := by
  simp [agStep, ssStep, cst, ld, cn, hR, mn, fk]
theorem ag23 (hR : R ≠ 0) : agStep pa W (⟨⟨ti, 23, rc, sq, wo, lk, cu, pv, 0, 1, ps, rn⟩, [], [1, 3, i, R, 1, A, 0, T], c, s, dn⟩, q) = (⟨⟨ti, 33, rc, sq, wo, 1, 3, pv, 1, 1, ps, rn⟩, [], [1, 3, i, R, 1, A, 0, T], c + 1 + 1, s, []⟩, q) := by
  have e : ad 3 1 = 4 := by unfold ad wrap64; omega
  have e0 : ad 0 1 = 1 := by unfold ad wrap64; omega
  have eb : bs 0 = 3 := by unfold bs; decide
  simp [agStep, ssStep, cst, ld, cn, hR, hlT, onT, eb, e, e0, fk]
theorem ag33 (hR : R ≠ 0) : agStep pa W (⟨⟨ti, 33, rc, sq, wo, lk, cu, pv, nt, mx, ps, rn⟩, l, [1, 3, i, R, 1, A, 0, T], c, s, dn⟩, q) = (⟨⟨ti, 34, rc, sq, wo, 3, 3, pv, nt, mx, ps, rn⟩, l, [1, 3, i, R, 1, A, 0, T], c + 1 + 1, s, []⟩, q) := by
  simp [agStep, ssStep, cst, ld, cn, hR, foT]
theorem ag34 (hR : 0 < R) : agStep pa W (⟨⟨ti, 34, rc, sq, wo, lk, 3, pv, nt, mx, ps, rn⟩, [], [1, 3, i, R, 1, A, 0, T], c, s, dn⟩, q) = (⟨⟨ti, 35, rc, sq, wo, R, 3, pv, nt, mx, ps, rn⟩, [(3, R, 0)], [1, 3, i, R, 1, A, 0, T], c + 1 + 1, s, []⟩, q) := by
  have e : ad 3 0 = 3 := by unfold ad wrap64; omega
  have hR' : R ≠ 0 := by omega
  simp [agStep, ssStep, cst, ld, cn, hR', hR, e]
theorem ag35 (hR : R ≠ 0) : agStep pa W (⟨⟨ti, 35, rc, sq, wo, lk, 3, pv, nt, mx, ps, rn⟩, [(3, R, 0)], [1, 3, i, R, 1, A, 0, T], c, s, dn⟩, q) = (⟨⟨ti, 36, rc, sq, wo, 0, 3, pv, nt, mx, ps, rn⟩, [(3, R, 0)], [1, 3, i, R, 1, A, 0, T], c + 1 + 1, s, []⟩, q) := by
  have e : ad 3 3 = 6 := by unfold ad wrap64; omega
  simp [agStep, ssStep, cst, ld, cn, hR, e, foT]
theorem ag36 (hR : R ≠ 0) : agStep pa W (⟨⟨ti, 36, rc, sq, wo, lk, cu, pv, nt, mx, ps, rn⟩, [(3, R, 0)], [1, 3, i, R, 1, A, 0, T], c, s, dn⟩, q) = (⟨⟨ti, 37, rc, sq, wo, lk, cu, pv, 0, mx, ps, rn⟩, doL 1 10 s [(3, R, 0)], [1, 3, i, R, 1, A, 0, T], c + 1, objS 1 10 s (opsW [(3, R, 0)]), doL 1 10 s [(3, R, 0)]⟩, q) := by
  simp [agStep, ssStep, ld, cn, hR]
theorem ag37 {Y : Int} (hR : R ≠ 0) : agStep pa W (⟨⟨ti, 37, rc, sq, wo, lk, cu, pv, 0, mx, ps, rn⟩, [(3, R, Y)], [1, 3, i, R, 1, A, 0, T], c, s, dn⟩, q) = (⟨⟨ti, 38, rc, sq, wo, lk, cu, pv, 0, mx, ps, rn⟩, [(3, R, Y)], [1, 3, i, R, 1, A, 0, Y], c + 1 + 1, s, []⟩, q) := by
  have e : ad 3 4 = 7 := by unfold ad wrap64; omega
  simp [agStep, ssStep, cst, ld, cn, hR, itS, itC, itB, itG, e, sto]
theorem ag38 {Y : Int} (hR : R ≠ 0) : agStep pa W (⟨⟨ti, 38, rc, sq, wo, lk, cu, pv, 0, mx, ps, rn⟩, [(3, R, Y)], [1, 3, i, R, 1, A, 0, T], c, s, dn⟩, q) = (⟨⟨ti, 39, rc, sq, wo, lk, cu, pv, 0, mx, ps, rn⟩, [(3, R, Y)], [1, 3, i, R, 1, ps, 0, T], c + 1 + 1, s, []⟩, q) := by
  have e : ad 3 2 = 5 := by unfold ad wrap64; omega
  simp [agStep, ssStep, cst, ld, cn, hR, itS, itC, itB, itG, e, sto]
theorem ag39 {Y : Int} (hq : q < 9) : agStep pa W (⟨⟨ti, 39, rc, sq, wo, lk, cu, pv, 0, mx, ps, rn⟩, [(3, R, Y)], [1, 3, i, R, 1, A, 0, T], c, s, dn⟩, q) = (⟨⟨ti, fk (decide (rn < pa)) 20 40, rc, sq, wo, lk, cu, pv, 1, mx, ps, rn⟩, [(3, R, Y)], [1, 3, i, W, 1, A, 0, T], c + 1 + 1 + 1, s, []⟩, q + 1) := by
  have e : ad 3 0 = 3 := by unfold ad wrap64; omega
  have e0 : ad 0 1 = 1 := by unfold ad wrap64; omega
  simp [agStep, ssStep, cst, ld, cn, hq, itS, itC, itB, itG, e, e0, sto, frT]
end

/-- A pass's beginning: i passes behind it. -/
def AgP (i : Nat) (W : Int) (x : SS × Nat) : Prop := ∃ ti rc sq wo lk cu pv nt mx ps A T c s dn l R, x = (⟨⟨ti, 20, rc, sq, wo, lk, cu, pv, nt, mx, ps, (i : Int)⟩, l, [1, 3, (i : Int), R, 1, A, 0, T], c, s, dn⟩, i) ∧ (1 ≤ R ∧ R ≤ 1099511627776 ∧ kd R = 1) ∧ s.1.length = i
/-- The end. -/
def AgE (n : Nat) (x : SS × Nat) : Prop := x.1.t.pc = 40 ∧ x.1.t.rn = n ∧ ld x.1.zs 2 = n ∧ x.1.zs.length = 8 ∧ (vals x.1.s.1).length = n

theorem agPass {i n : Nat} {W : Int} (hi : i < n) (hn : n ≤ 5) (hW : 1 ≤ W ∧ W ≤ 1099511627776 ∧ kd W = 1) {x : SS × Nat} (h : AgP i W x) :
    (∀ j, j < 11 → srv (agIt n W x j).1 = true) ∧ (if i + 1 < n then AgP (i + 1) W (agIt n W x 11) else AgE n (agIt n W x 11)) := by
  obtain ⟨ti, rc, sq, wo, lk, cu, pv, nt, mx, ps, A, T, c, s, dn, l, R, rfl, ⟨hR1, hR2, hR3⟩, hs⟩ := h
  have hR0 : R ≠ 0 := by omega
  have hRp : 0 < R := by omega
  have hok : okW R = true := decide_eq_true ⟨hR1, hR2⟩
  have e36 : doL 1 10 s [(3, R, 0)] = [(3, R, wd (objC 1 10 (vals s.1) (opW (3, R, 0)).1) (objV 1 (vals s.1) (opW (3, R, 0)).1))] := by
    show srvL _ (batT 1 10 (vals s.1) [opW (3, R, 0)]) = _
    rw [batT_one]
    rfl
  obtain ⟨Y, hY⟩ : ∃ Y, wd (objC 1 10 (vals s.1) (opW (3, R, 0)).1) (objV 1 (vals s.1) (opW (3, R, 0)).1) = Y := ⟨_, rfl⟩
  rw [hY] at e36
  have hv : (vals s.1).length = i := by rw [vals_length]; exact hs
  have es : (objS 1 10 s (opsW [(3, R, 0)])).1.length = i + 1 := by
    have h1 : vals (objS 1 10 s (opsW [(3, R, 0)])).1 = objL 1 10 (vals s.1) (opW (3, R, 0)).1 (opW (3, R, 0)).2 := by
      rw [objS_vals]
      show batZ 1 10 (vals s.1) [opW (3, R, 0)] = _
      rw [batZ_one]
    have h2 : (opW (3, R, 0)).1 = 1 := by
      show rK R = 1
      unfold rK
      rw [if_pos hok]
      exact hR3
    have h3 : (vals (objS 1 10 s (opsW [(3, R, 0)])).1).length = i + 1 := by
      rw [h1, h2]
      have h10 : (i : Int) < 10 := by omega
      simp [objL, stkL, hv, h10]
    rwa [vals_length] at h3
  obtain ⟨X, hX⟩ : ∃ X : SS × Nat, X = (⟨⟨ti, 20, rc, sq, wo, lk, cu, pv, nt, mx, ps, (i : Int)⟩, l, [1, 3, (i : Int), R, 1, A, 0, T], c, s, dn⟩, i) := ⟨_, rfl⟩
  rw [← hX]
  have s0 : agIt n W X 0 = _ := hX
  have s1 : agIt n W X 1 = _ := (congrArg (agStep n W) s0).trans (ag20 hR0)
  have s2 : agIt n W X 2 = _ := (congrArg (agStep n W) s1).trans (ag21 hR0 (by omega) (by omega) (by omega) (by omega))
  have s3 : agIt n W X 3 = _ := (congrArg (agStep n W) s2).trans (ag22 hR0)
  have s4 : agIt n W X 4 = _ := (congrArg (agStep n W) s3).trans (ag23 hR0)
  have s5 : agIt n W X 5 = _ := (congrArg (agStep n W) s4).trans (ag33 hR0)
  have s6 : agIt n W X 6 = _ := (congrArg (agStep n W) s5).trans (ag34 hRp)
  have s7 : agIt n W X 7 = _ := (congrArg (agStep n W) s6).trans (ag35 hR0)
  have s8 : agIt n W X 8 = _ := (congrArg (agStep n W) s7).trans (ag36 hR0)
  rw [e36] at s8
  have s9 : agIt n W X 9 = _ := (congrArg (agStep n W) s8).trans (ag37 hR0)
  have s10 : agIt n W X 10 = _ := (congrArg (agStep n W) s9).trans (ag38 hR0)
  have s11 : agIt n W X 11 = _ := (congrArg (agStep n W) s10).trans (ag39 (by omega))
  have v : ∀ {j : Nat} {Y : SS × Nat}, agIt n W X j = Y → srv Y.1 = true → srv (agIt n W X j).1 = true := fun h1 h2 => by rw [h1]; exact h2
  refine ⟨fun j hj => ?_, ?_⟩
  · rcases (show j = 0 ∨ j = 1 ∨ j = 2 ∨ j = 3 ∨ j = 4 ∨ j = 5 ∨ j = 6 ∨ j = 7 ∨ j = 8 ∨ j = 9 ∨ j = 10 by omega) with rfl | rfl | rfl | rfl | rfl | rfl | rfl | rfl | rfl | rfl | rfl
    · exact v s0 rfl
    · exact v s1 rfl
    · exact v s2 rfl
    · exact v s3 rfl
    · exact v s4 rfl
    · exact v s5 rfl
    · exact v s6 rfl
    · exact v s7 rfl
    · exact v s8 rfl
    · exact v s9 rfl
    · exact v s10 rfl
  · by_cases hlt : i + 1 < n
    · rw [if_pos hlt, s11]
      have hd : fk (decide ((i : Int) + 1 < (n : Int))) 20 40 = 20 := by rw [decide_eq_true (by omega)]; rfl
      rw [hd]
      exact ⟨ti, rc, sq, wo, 0, 3, pv, 1, 1, (i : Int) + 1, (i : Int) + 1, Y, _, _, _, _, W, rfl, hW, es⟩
    · rw [if_neg hlt, s11]
      have hd : fk (decide ((i : Int) + 1 < (n : Int))) 20 40 = 40 := by rw [decide_eq_false (by omega)]; rfl
      rw [hd]
      exact ⟨rfl, by show (i : Int) + 1 = n; omega, by show ld _ 2 = _; simp [ld]; omega, rfl, by rw [vals_length]; show (objS 1 10 s (opsW [(3, R, 0)])).1.length = n; rw [es]; omega⟩

theorem agAll {n : Nat} {W : Int} (hn : n ≤ 5) (hW : 1 ≤ W ∧ W ≤ 1099511627776 ∧ kd W = 1) : ∀ (d i : Nat), i + (d + 1) = n → ∀ {x : SS × Nat}, AgP i W x → ∃ K, K ≤ 11 * (d + 1) ∧ (∀ j, j < K → srv (agIt n W x j).1 = true) ∧ AgE n (agIt n W x K)
  | 0, i, hd, x, h => by
    obtain ⟨h1, h2⟩ := agPass (by omega) hn hW h
    rw [if_neg (by omega)] at h2
    exact ⟨11, by omega, h1, h2⟩
  | d + 1, i, hd, x, h => by
    obtain ⟨h1, h2⟩ := agPass (n := n) (by omega) hn hW h
    rw [if_pos (by omega)] at h2
    obtain ⟨K, hK, h3, h4⟩ := agAll hn hW d (i + 1) (by omega) h2
    refine ⟨11 + K, by omega, fun j hj => ?_, by rw [agIt_add]; exact h4⟩
    by_cases hj2 : j < 11
    · exact h1 j hj2
    · obtain ⟨r, rfl⟩ : ∃ r, j = 11 + r := ⟨j - 11, by omega⟩
      rw [agIt_add]
      exact h3 r (by omega)

end Go.Proofs.YtkbhemaijbkpbaaGreat.M2
namespace Go.Proofs.YtkbhemaijbkpbaaGreat.M2
open Go.RowKit

section
variable {w a : World} {p o : Nat} {v : Value} {size : Int} {zs : List Int} {st : Int} {F : Nat → Prop} {k m : Int} {pl : Bool} {s : List It × List Bool}
theorem MO.loadC (h : MO w p v size zs st F o k m pl s a) (x : Int) (k0 : 0 ≤ st) (k1 : st < 1000000) :
    Calls Tryz.prog 36 #[.pointer (some ⟨p, 0, none⟩), .int .i64 x] a fun e b => e = .returned (.tuple #[.int .i64 (ld zs x), .int .u16 (ce zs x)]) ∧ ∃ v', MO w p v' size zs (st + cn zs x) F o k m pl s b ∧ Kp F a b ∧ a.heap.size ≤ b.heap.size :=
  (loadD h.me x k0 k1).mono fun e b ⟨he, d⟩ => by
    obtain ⟨v', h'⟩ := h.did d
    exact ⟨he, v', h', h.kp d, by obtain ⟨_, _, wr, _⟩ := d; exact wr.size⟩
theorem MO.storeC (h : MO w p v size zs st F o k m pl s a) (x y : Int) (k0 : 0 ≤ st) (k1 : st < 1000000) :
    Calls Tryz.prog 37 #[.pointer (some ⟨p, 0, none⟩), .int .i64 x, .int .i64 y] a fun e b => e = .returned (.int .u16 (ce zs x)) ∧ ∃ v', MO w p v' size (sto zs x y) (st + cn zs x) F o k m pl s b ∧ Kp F a b ∧ a.heap.size ≤ b.heap.size :=
  (storeD h.me x y k0 k1).mono fun e b ⟨he, d⟩ => by
    obtain ⟨v', h'⟩ := h.did d
    exact ⟨he, v', h', h.kp d, by obtain ⟨_, _, wr, _⟩ := d; exact wr.size⟩
end

theorem itC_bd (is : Bool) (zs : List Int) (a : Int) : 0 ≤ itC is zs a ∧ itC is zs a ≤ 1 := by
  cases is
  · exact ⟨Int.le_refl _, by show (0 : Int) ≤ 1; omega⟩
  · exact cn_bd zs a
theorem cst_c (pa : Int) (t : Th) (zs : List Int) (l : List It3) : 0 ≤ (cst pa t zs l).c ∧ (cst pa t zs l).c ≤ 1 := by
  by_cases h20 : t.pc = 20
  · rw [cst20 pa t zs l h20]; first | exact cn_bd _ _ | exact itC_bd _ _ _ | exact ⟨Int.le_refl _, by show (0 : Int) ≤ 1; omega⟩
  by_cases h21 : t.pc = 21
  · rw [cst21 pa t zs l h21]; first | exact cn_bd _ _ | exact itC_bd _ _ _ | exact ⟨Int.le_refl _, by show (0 : Int) ≤ 1; omega⟩
  by_cases h22 : t.pc = 22
  · rw [cst22 pa t zs l h22]; first | exact cn_bd _ _ | exact itC_bd _ _ _ | exact ⟨Int.le_refl _, by show (0 : Int) ≤ 1; omega⟩
  by_cases h23 : t.pc = 23
  · rw [cst23 pa t zs l h23]; first | exact cn_bd _ _ | exact itC_bd _ _ _ | exact ⟨Int.le_refl _, by show (0 : Int) ≤ 1; omega⟩
  by_cases h24 : t.pc = 24
  · rw [cst24 pa t zs l h24]; first | exact cn_bd _ _ | exact itC_bd _ _ _ | exact ⟨Int.le_refl _, by show (0 : Int) ≤ 1; omega⟩
  by_cases h25 : t.pc = 25
  · rw [cst25 pa t zs l h25]; first | exact cn_bd _ _ | exact itC_bd _ _ _ | exact ⟨Int.le_refl _, by show (0 : Int) ≤ 1; omega⟩
  by_cases h26 : t.pc = 26
  · rw [cst26 pa t zs l h26]; first | exact cn_bd _ _ | exact itC_bd _ _ _ | exact ⟨Int.le_refl _, by show (0 : Int) ≤ 1; omega⟩
  by_cases h27 : t.pc = 27
  · rw [cst27 pa t zs l h27]; first | exact cn_bd _ _ | exact itC_bd _ _ _ | exact ⟨Int.le_refl _, by show (0 : Int) ≤ 1; omega⟩
  by_cases h28 : t.pc = 28
  · rw [cst28 pa t zs l h28]; first | exact cn_bd _ _ | exact itC_bd _ _ _ | exact ⟨Int.le_refl _, by show (0 : Int) ≤ 1; omega⟩
  by_cases h29 : t.pc = 29
  · rw [cst29 pa t zs l h29]; first | exact cn_bd _ _ | exact itC_bd _ _ _ | exact ⟨Int.le_refl _, by show (0 : Int) ≤ 1; omega⟩
  by_cases h30 : t.pc = 30
  · rw [cst30 pa t zs l h30]; first | exact cn_bd _ _ | exact itC_bd _ _ _ | exact ⟨Int.le_refl _, by show (0 : Int) ≤ 1; omega⟩
  by_cases h31 : t.pc = 31
  · rw [cst31 pa t zs l h31]; first | exact cn_bd _ _ | exact itC_bd _ _ _ | exact ⟨Int.le_refl _, by show (0 : Int) ≤ 1; omega⟩
  by_cases h32 : t.pc = 32
  · rw [cst32 pa t zs l h32]; first | exact cn_bd _ _ | exact itC_bd _ _ _ | exact ⟨Int.le_refl _, by show (0 : Int) ≤ 1; omega⟩
  by_cases h33 : t.pc = 33
  · rw [cst33 pa t zs l h33]; first | exact cn_bd _ _ | exact itC_bd _ _ _ | exact ⟨Int.le_refl _, by show (0 : Int) ≤ 1; omega⟩
  by_cases h34 : t.pc = 34
  · rw [cst34 pa t zs l h34]; first | exact cn_bd _ _ | exact itC_bd _ _ _ | exact ⟨Int.le_refl _, by show (0 : Int) ≤ 1; omega⟩
  by_cases h35 : t.pc = 35
  · rw [cst35 pa t zs l h35]; first | exact cn_bd _ _ | exact itC_bd _ _ _ | exact ⟨Int.le_refl _, by show (0 : Int) ≤ 1; omega⟩
  by_cases h37 : t.pc = 37
  · rw [cst37 pa t zs l h37]; first | exact cn_bd _ _ | exact itC_bd _ _ _ | exact ⟨Int.le_refl _, by show (0 : Int) ≤ 1; omega⟩
  by_cases h38 : t.pc = 38
  · rw [cst38 pa t zs l h38]; first | exact cn_bd _ _ | exact itC_bd _ _ _ | exact ⟨Int.le_refl _, by show (0 : Int) ≤ 1; omega⟩
  by_cases h39 : t.pc = 39
  · rw [cst39 pa t zs l h39]; first | exact cn_bd _ _ | exact itC_bd _ _ _ | exact ⟨Int.le_refl _, by show (0 : Int) ≤ 1; omega⟩
  rw [cst0 pa t zs l (by omega)]
  exact ⟨Int.le_refl _, by show (0 : Int) ≤ 1; omega⟩
theorem cst_l (pa : Int) (t : Th) (zs : List Int) (l : List It3) : (cst pa t zs l).l.length ≤ l.length + 1 := by
  by_cases h20 : t.pc = 20
  · rw [cst20 pa t zs l h20]; first | exact Nat.le_succ _ | exact Nat.zero_le _ | (show (if 0 < ld zs (ad t.cu 0) then l ++ [(t.cu, ld zs (ad t.cu 0), 0)] else l).length ≤ l.length + 1; split <;> simp)
  by_cases h21 : t.pc = 21
  · rw [cst21 pa t zs l h21]; first | exact Nat.le_succ _ | exact Nat.zero_le _ | (show (if 0 < ld zs (ad t.cu 0) then l ++ [(t.cu, ld zs (ad t.cu 0), 0)] else l).length ≤ l.length + 1; split <;> simp)
  by_cases h22 : t.pc = 22
  · rw [cst22 pa t zs l h22]; first | exact Nat.le_succ _ | exact Nat.zero_le _ | (show (if 0 < ld zs (ad t.cu 0) then l ++ [(t.cu, ld zs (ad t.cu 0), 0)] else l).length ≤ l.length + 1; split <;> simp)
  by_cases h23 : t.pc = 23
  · rw [cst23 pa t zs l h23]; first | exact Nat.le_succ _ | exact Nat.zero_le _ | (show (if 0 < ld zs (ad t.cu 0) then l ++ [(t.cu, ld zs (ad t.cu 0), 0)] else l).length ≤ l.length + 1; split <;> simp)
  by_cases h24 : t.pc = 24
  · rw [cst24 pa t zs l h24]; first | exact Nat.le_succ _ | exact Nat.zero_le _ | (show (if 0 < ld zs (ad t.cu 0) then l ++ [(t.cu, ld zs (ad t.cu 0), 0)] else l).length ≤ l.length + 1; split <;> simp)
  by_cases h25 : t.pc = 25
  · rw [cst25 pa t zs l h25]; first | exact Nat.le_succ _ | exact Nat.zero_le _ | (show (if 0 < ld zs (ad t.cu 0) then l ++ [(t.cu, ld zs (ad t.cu 0), 0)] else l).length ≤ l.length + 1; split <;> simp)
  by_cases h26 : t.pc = 26
  · rw [cst26 pa t zs l h26]; first | exact Nat.le_succ _ | exact Nat.zero_le _ | (show (if 0 < ld zs (ad t.cu 0) then l ++ [(t.cu, ld zs (ad t.cu 0), 0)] else l).length ≤ l.length + 1; split <;> simp)
  by_cases h27 : t.pc = 27
  · rw [cst27 pa t zs l h27]; first | exact Nat.le_succ _ | exact Nat.zero_le _ | (show (if 0 < ld zs (ad t.cu 0) then l ++ [(t.cu, ld zs (ad t.cu 0), 0)] else l).length ≤ l.length + 1; split <;> simp)
  by_cases h28 : t.pc = 28
  · rw [cst28 pa t zs l h28]; first | exact Nat.le_succ _ | exact Nat.zero_le _ | (show (if 0 < ld zs (ad t.cu 0) then l ++ [(t.cu, ld zs (ad t.cu 0), 0)] else l).length ≤ l.length + 1; split <;> simp)
  by_cases h29 : t.pc = 29
  · rw [cst29 pa t zs l h29]; first | exact Nat.le_succ _ | exact Nat.zero_le _ | (show (if 0 < ld zs (ad t.cu 0) then l ++ [(t.cu, ld zs (ad t.cu 0), 0)] else l).length ≤ l.length + 1; split <;> simp)
  by_cases h30 : t.pc = 30
  · rw [cst30 pa t zs l h30]; first | exact Nat.le_succ _ | exact Nat.zero_le _ | (show (if 0 < ld zs (ad t.cu 0) then l ++ [(t.cu, ld zs (ad t.cu 0), 0)] else l).length ≤ l.length + 1; split <;> simp)
  by_cases h31 : t.pc = 31
  · rw [cst31 pa t zs l h31]; first | exact Nat.le_succ _ | exact Nat.zero_le _ | (show (if 0 < ld zs (ad t.cu 0) then l ++ [(t.cu, ld zs (ad t.cu 0), 0)] else l).length ≤ l.length + 1; split <;> simp)
  by_cases h32 : t.pc = 32
  · rw [cst32 pa t zs l h32]; first | exact Nat.le_succ _ | exact Nat.zero_le _ | (show (if 0 < ld zs (ad t.cu 0) then l ++ [(t.cu, ld zs (ad t.cu 0), 0)] else l).length ≤ l.length + 1; split <;> simp)
  by_cases h33 : t.pc = 33
  · rw [cst33 pa t zs l h33]; first | exact Nat.le_succ _ | exact Nat.zero_le _ | (show (if 0 < ld zs (ad t.cu 0) then l ++ [(t.cu, ld zs (ad t.cu 0), 0)] else l).length ≤ l.length + 1; split <;> simp)
  by_cases h34 : t.pc = 34
  · rw [cst34 pa t zs l h34]; first | exact Nat.le_succ _ | exact Nat.zero_le _ | (show (if 0 < ld zs (ad t.cu 0) then l ++ [(t.cu, ld zs (ad t.cu 0), 0)] else l).length ≤ l.length + 1; split <;> simp)
  by_cases h35 : t.pc = 35
  · rw [cst35 pa t zs l h35]; first | exact Nat.le_succ _ | exact Nat.zero_le _ | (show (if 0 < ld zs (ad t.cu 0) then l ++ [(t.cu, ld zs (ad t.cu 0), 0)] else l).length ≤ l.length + 1; split <;> simp)
  by_cases h37 : t.pc = 37
  · rw [cst37 pa t zs l h37]; first | exact Nat.le_succ _ | exact Nat.zero_le _ | (show (if 0 < ld zs (ad t.cu 0) then l ++ [(t.cu, ld zs (ad t.cu 0), 0)] else l).length ≤ l.length + 1; split <;> simp)
  by_cases h38 : t.pc = 38
  · rw [cst38 pa t zs l h38]; first | exact Nat.le_succ _ | exact Nat.zero_le _ | (show (if 0 < ld zs (ad t.cu 0) then l ++ [(t.cu, ld zs (ad t.cu 0), 0)] else l).length ≤ l.length + 1; split <;> simp)
  by_cases h39 : t.pc = 39
  · rw [cst39 pa t zs l h39]; first | exact Nat.le_succ _ | exact Nat.zero_le _ | (show (if 0 < ld zs (ad t.cu 0) then l ++ [(t.cu, ld zs (ad t.cu 0), 0)] else l).length ≤ l.length + 1; split <;> simp)
  rw [cst0 pa t zs l (by omega)]
  exact Nat.le_succ _
theorem ss_l (pa k m : Int) (S : SS) : (ssStep pa k m S).l.length ≤ S.l.length + 1 := by
  unfold ssStep
  split
  · show (doL k m S.s S.l).length ≤ _; rw [doL_length]; exact Nat.le_succ _
  · exact cst_l _ _ _ _
theorem ss_c (pa k m : Int) (S : SS) : S.c ≤ (ssStep pa k m S).c ∧ (ssStep pa k m S).c ≤ S.c + 1 := by
  unfold ssStep
  split
  · exact ⟨Int.le_refl _, by show S.c ≤ S.c + 1; omega⟩
  · have := cst_c pa S.t S.zs S.l
    exact ⟨by show S.c ≤ S.c + _; omega, by show S.c + _ ≤ S.c + 1; omega⟩
end Go.Proofs.YtkbhemaijbkpbaaGreat.M2
namespace Go.Proofs.YtkbhemaijbkpbaaGreat.M2
open Go.RowKit

section
variable {w : World} {B : Nat} {u : Value} {size : Int} {zs : List Int} {st : Int}

end

end Go.Proofs.YtkbhemaijbkpbaaGreat.M2
namespace Go.Proofs.YtkbhemaijbkpbaaGreat.M2
open Go.RowKit

/-- The document's memory in a box, and a record's box beside it. -/
def RS (w : World) (B : Nat) (u : Value) (size : Int) (zs : List Int) (st : Int) (wr : World) : Prop :=
  wr.ownsRow B 2 1 u zs.length (zs.map (Value.int .i64)) ∧ Boxed wr w.heap.size (.int .i64 size) u (.int .i64 st) ∧ B5 wr (w.heap.size + 1) 123 0 0 0 0 0 ∧ Below w.heap.size w wr

section
variable {w : World} {B : Nat} {u : Value} {size : Int} {zs : List Int} {st : Int}

theorem RS.fresh {a b : World} (h : RS w B u size zs st a) (hb : Below a.heap.size a b) : RS w B u size zs st b :=
  ⟨own_keep h.1 hb, h.2.1.keep hb, h.2.2.1.keep hb, h.2.2.2.trans (hb.mono h.2.2.2.size)⟩

theorem RS.at {W : World} (h : RS w B u size zs st W) (a : Int) (i : Nat) (ha : a = (i : Int)) (hi : i < zs.length) :
    Calls Tryz.prog 55 #[.agg #[.int .i64 size, u, .int .i64 st], .int .i64 a] W fun e w' => e = .returned (.int .i64 (zs.getD i 0)) ∧ Below W.heap.size W w' := by
  have C := refAtIn (size := size) (st := st) h.1 a (by omega) (by omega)
  rw [show a.toNat = i by omega] at C
  exact C

theorem RS.new (h : w.ownsRow B 2 1 u zs.length (zs.map (Value.int .i64))) : ∀ W, (w.alloc (.cells #[.int .i64 size, u, .int .i64 st] 41)).alloc (.cells #[.int .i64 0, .int .i64 0, .int .i64 0, .int .i64 0, .int .i64 0] 123) = W → RS w B u size zs st W := by
  rintro W rfl
  have hb : Below w.heap.size w ((w.alloc (.cells #[.int .i64 size, u, .int .i64 st] 41)).alloc (.cells #[.int .i64 0, .int .i64 0, .int .i64 0, .int .i64 0, .int .i64 0] 123)) := ((Below.refl _ _).alloc (Nat.le_refl _) _).alloc (by simp) _
  refine ⟨own_keep h hb, (Boxed.new _ _ _ _).alloc _, ?_, hb⟩
  have := B5.new (w.alloc (.cells #[.int .i64 size, u, .int .i64 st] 41)) 123 0 0 0 0 0
  simpa using this

end

end Go.Proofs.YtkbhemaijbkpbaaGreat.M2
namespace Go.Proofs.YtkbhemaijbkpbaaGreat.M2
open Go.RowKit

theorem setN_all (zs : List Int) : setN (List.replicate zs.length 0) 0 zs zs.length = zs := by
  apply List.ext_getElem
  · rw [setN_length, List.length_replicate]
  · intro i h1 h2
    have := setN_at (List.replicate zs.length 0) 0 zs zs.length i h2 (by simp)
    rw [Nat.zero_add] at this
    simpa [List.getD, h1, h2] using this

theorem cellKept {w : World} {a : Addr} {u : Value} (h : w.cell? a = some u) (o : Obj) : (w.alloc o).cell? a = some u := by
  have hl := World.block_lt_of_cell? w _ h
  rw [← h]
  exact World.cell?_of_block (Below.heap_alloc _ _ _ hl)

/-- A memory (zs, st), the document's one (ys, sd) in the box rb, and the box of what is told. -/
structure BM (w : World) (rb p : Nat) (v u : Value) (size : Int) (zs : List Int) (st : Int) (ys : List Int) (sd : Int) (wr : World) : Prop where
  m : Mem wr w.heap.size p v size zs st
  o : wr.ownsRow w.heap.size 2 1 u ys.length (ys.map (Value.int .i64))
  n : ∀ g, u.ownBlock = some g → v.ownBlock ≠ some g
  r : Boxed wr rb (.int .i64 size) u (.int .i64 sd)
  t : Boxed wr w.heap.size (.int .i64 0) (.slice none 0 0) (.int .i64 0)
  l : w.heap.size < rb
  b : Below w.heap.size w wr

section
variable {w : World} {rb p : Nat} {v u : Value} {size : Int} {zs ys : List Int} {st sd : Int}

theorem BM.fresh {a b : World} (h : BM w rb p v u size zs st ys sd a) (hb : Below a.heap.size a b) : BM w rb p v u size zs st ys sd b :=
  ⟨h.m.fresh hb, own_keep h.o hb, h.n, h.r.keep hb, h.t.keep hb, h.l, h.b.trans (hb.mono h.b.size)⟩

/-- A call on the memory alone. -/
theorem BM.did {a w' : World} {zs' : List Int} {st' : Int} (h : BM w rb p v u size zs st ys sd a) (d : Did w.heap.size p v size zs' st' a w') : ∃ v', BM w rb p v' u size zs' st' ys sd w' := by
  obtain ⟨v', m', wr, lt⟩ := d
  have bx : ∀ {N : Nat} {x y z : Value}, Boxed a N x y z → Boxed w' N x y z := fun {N x y z} hx => by
    refine (wr.block N hx.lt ?_ (own_ne_boxed h.m.own hx)).trans hx
    rintro rfl
    have e1 := h.m.block
    unfold Boxed at hx
    rw [hx] at e1
    simp at e1
  refine ⟨v', m', ⟨h.o.1, ?_⟩, ?_, bx h.r, bx h.t, h.l, h.b.trans (wr.below h.b.size h.m.low (fun g hg => (h.m.rowLt hg).1))⟩
  · rcases h.o.2 with hn | ⟨g, cap, cur, rfl, hb, hg, r⟩
    · exact .inl hn
    · refine .inr ⟨g, cap, cur, rfl, hb, (wr.block g (lt_of_block hg) ?_ (h.n g rfl)).trans hg, r⟩
      rintro rfl
      have e1 := h.m.block
      rw [hg] at e1
      simp at e1
  · intro g hg e
    rcases lt g e with h1 | h1
    · exact h.n g hg h1
    · have := (h.o.lt g hg).2
      omega

theorem BM.store {a : World} (h : BM w rb p v u size zs st ys sd a) (x y : Int) (h0 : 0 ≤ x) (h1 : x < zs.length) (k0 : 0 ≤ st) (k1 : st < 1000000) :
    Calls Tryz.prog 37 #[.pointer (some ⟨p, 0, none⟩), .int .i64 x, .int .i64 y] a fun e w' => e = .returned (.int .u16 0) ∧ ∃ v', BM w rb p v' u size (zs.set x.toNat y) (st + 1) ys sd w' :=
  (storeIn h.m x y h0 h1 k0 k1).mono fun _ _ ⟨he, d⟩ => ⟨he, h.did d⟩

theorem BM.alloc {a : World} (h : BM w rb p v u size zs st ys sd a) (m : Nat) (hm : (m : Int) ≤ size - zs.length) (k0 : 0 ≤ st) (k1 : st < 1000000) :
    Calls Tryz.prog 43 #[.pointer (some ⟨p, 0, none⟩), .int .i64 (m : Int)] a fun e w' => e = .returned (.tuple #[.int .i64 (zs.length : Int), .int .u16 0]) ∧ ∃ v', BM w rb p v' u size (zs ++ List.replicate m 0) (st + 1) ys sd w' :=
  (allocOk h.m m hm k0 k1).mono fun _ _ ⟨he, d⟩ => ⟨he, h.did d⟩

/-- The document's memory behind its store: u2 holds ys2, in the box nb. -/
structure AF (w : World) (rb p nb : Nat) (v u u2 : Value) (size : Int) (zs : List Int) (st : Int) (ys ys2 : List Int) (sd : Int) (wr : World) : Prop where
  h : BM w rb p v u size zs st ys sd wr
  o2 : wr.ownsRow w.heap.size 2 1 u2 ys2.length (ys2.map (Value.int .i64))
  n2 : ∀ g, u2.ownBlock = some g → v.ownBlock ≠ some g
  r2 : Boxed wr nb (.int .i64 size) u2 (.int .i64 (sd + 1))
  l2 : nb ≠ rb

theorem AF.a {a b : World} (h : BM w rb p v u size zs st ys sd a) {ys2 : List Int} {u2 : Value} (hl : Left a w.heap.size u ys2 u2 b) :
    AF w rb p b.heap.size v u u2 size zs st ys ys2 sd (b.alloc (.cells #[.int .i64 size, u2, .int .i64 (sd + 1)] 41)) := by
  obtain ⟨o2, lt, bl⟩ := hl
  have hb := bl.alloc bl.size (.cells #[.int .i64 size, u2, .int .i64 (sd + 1)] 41)
  refine ⟨h.fresh hb, o2.alloc _, ?_, Boxed.new _ _ _ _, ?_⟩
  · intro g hg e
    rcases lt g hg with h1 | h1
    · exact h.n g h1 e
    · have := (h.m.rowLt e).2
      omega
  · have := h.r.lt
    have := bl.size
    omega

theorem AF.b {a c b : World} (h : BM w rb p v u size zs st ys sd a) (hc : a.alloc (.cells #[.int .i64 0, .slice none 0 0, .int .i64 0] 41) = c) {ys2 : List Int} {u2 : Value} (hl : Left c w.heap.size u ys2 u2 b) :
    AF w rb p a.heap.size v u u2 size zs st ys ys2 sd (((b.setCell ⟨a.heap.size, 0, none⟩ (.int .i64 size)).setCell ⟨a.heap.size, 1, none⟩ u2).setCell ⟨a.heap.size, 2, none⟩ (.int .i64 (sd + 1))) := by
  subst hc
  obtain ⟨o2, lt, bl⟩ := hl
  have hz : Boxed b a.heap.size (.int .i64 0) (.slice none 0 0) (.int .i64 0) := (Boxed.new a _ _ _).keep bl
  have ne := own_ne_boxed o2 hz
  have hab : Below a.heap.size a b := ((Below.refl a.heap.size a).alloc (Nat.le_refl _) (.cells #[.int .i64 0, .slice none 0 0, .int .i64 0] 41)).trans (bl.mono (by simp))
  have hs : a.heap.size < (a.alloc (.cells #[.int .i64 0, .slice none 0 0, .int .i64 0] 41)).heap.size := by simp
  refine ⟨h.fresh (((hab.setCell (Nat.le_refl _) _).setCell (Nat.le_refl _) _).setCell (Nat.le_refl _) _), ownsRow_setCell_other (ownsRow_setCell_other (ownsRow_setCell_other o2 ne _) ne _) ne _, ?_, ((hz.set0 _).set1 _).set2 _, ?_⟩
  · intro g hg e
    rcases lt g hg with h1 | h1
    · exact h.n g h1 e
    · have := (h.m.rowLt e).2
      omega
  · have := h.r.lt
    omega

/-- The document's variable is written anew. -/
theorem AF.turn {nb : Nat} {u2 : Value} {ys2 : List Int} {a : World} (h : AF w rb p nb v u u2 size zs st ys ys2 sd a) :
    BM w rb p v u2 size zs st ys2 (sd + 1) (((a.setCell ⟨rb, 0, none⟩ (.int .i64 size)).setCell ⟨rb, 1, none⟩ u2).setCell ⟨rb, 2, none⟩ (.int .i64 (sd + 1))) := by
  obtain ⟨⟨m, o, n, r, t, l, b⟩, o2, n2, r2, l2⟩ := h
  have hp : rb ≠ p := by
    rintro rfl
    have e1 := m.block
    unfold Boxed at r
    rw [r] at e1
    simp at e1
  have hv := own_ne_boxed m.own r
  have hu := own_ne_boxed o2 r
  refine ⟨((m.setOther (q := ⟨rb, 0, none⟩) hp hv _).setOther (q := ⟨rb, 1, none⟩) hp hv _).setOther (q := ⟨rb, 2, none⟩) hp hv _, ownsRow_setCell_other (ownsRow_setCell_other (ownsRow_setCell_other o2 hu _) hu _) hu _, n2, ((r.set0 _).set1 _).set2 _, ?_, l, ((b.setCell (by simp; omega) _).setCell (by simp; omega) _).setCell (by simp; omega) _⟩
  have e : rb ≠ w.heap.size := by omega
  exact ((t.other (q := ⟨rb, 0, none⟩) e _).other (q := ⟨rb, 1, none⟩) e _).other (q := ⟨rb, 2, none⟩) e _
end

end Go.Proofs.YtkbhemaijbkpbaaGreat.M2
namespace Go.Proofs.YtkbhemaijbkpbaaGreat.M2
open Go.RowKit

/-- What holds at each round's head. -/
def MemoRel (w : World) (rb p : Nat) (zs : List Int) (iv : Value) (wr : World) : Prop :=
  ∃ (k : Nat) (v u : Value), k ≤ zs.length ∧ iv = .int .i64 k ∧ BM w rb p v u zs.length (setN (List.replicate zs.length 0) 0 zs k) (1 + k) (setN (List.replicate zs.length 0) 0 zs k) (1 + k) wr

theorem sizeOf'_self (n : Nat) (h : n ≤ 200) : sizeOf' (n : Int) = (n : Int) := by unfold sizeOf'; rw [if_neg (by omega), if_neg (by omega)]

theorem other3 {w : World} {N M j : Nat} (h : M ≠ N) {v : Value} (x : w.cell? ⟨M, j, none⟩ = some v) (a b c : Value) : (((w.setCell ⟨N, 0, none⟩ a).setCell ⟨N, 1, none⟩ b).setCell ⟨N, 2, none⟩ c).cell? ⟨M, j, none⟩ = some v :=
  cellOther _ h (cellOther _ h (cellOther _ h x))

theorem other3d {w : World} {N M j : Nat} (h : M ≠ N) {v : Value} (x : w.cell? ⟨M, j, none⟩ = some v) (a b c : Value) : ((((w.setCell ⟨N, 0, none⟩ a).setCell ⟨N, 1, none⟩ b).setCell ⟨N, 2, none⟩ c).drew).cell? ⟨M, j, none⟩ = some v :=
  other3 h x a b c

end Go.Proofs.YtkbhemaijbkpbaaGreat.M2
namespace Go.Proofs.YtkbhemaijbkpbaaGreat.M2
open Go.RowKit

/-- What Memory tells: a memory, and the document's one, that hold these numbers, in lists apart. -/
def MadeT (w : World) (zs : List Int) (e : Ending) (w' : World) : Prop :=
  ∃ p u v, e = .returned (.tuple #[.pointer (some ⟨p, 0, none⟩), .agg #[.int .i64 (zs.length : Int), u, .int .i64 (1 + (zs.length : Int))]]) ∧ Mem w' w.heap.size p v zs.length zs (1 + (zs.length : Int)) ∧
    w'.ownsRow w.heap.size 2 1 u zs.length (zs.map (Value.int .i64)) ∧ (∀ g, u.ownBlock = some g → v.ownBlock ≠ some g) ∧ Below w.heap.size w w'

set_option maxRecDepth 100000 in
set_option maxHeartbeats 16000000 in
theorem memoryTwo (w : World) (ao : Option Addr) (len cap : Nat) (zs : List Int) (hz : Reads .i64 w ao len zs) (hl : len ≤ 200) :
    Calls Tryz.prog 16 #[.slice ao len cap] w (MadeT w zs) := by
  obtain rfl : zs.length = len := hz.1
  have HZ := Lib.hid hz
  clear hz
  have HS := Lib.hid (sizeOf'_self zs.length hl)
  have HL := Lib.hid hl
  obtain ⟨len, hlen⟩ : ∃ n, zs.length = n := ⟨_, rfl⟩
  rw [hlen] at HS HL hl ⊢
  have HE := Lib.hid hlen
  clear hlen
  go_enter Tryz.func16, Tryz.ntmps16
  go_wp2_with fail
  generalize hW : w.alloc (.cells #[.int .i64 0, .slice none 0 0, .int .i64 0] 41) = W
  have HT := Lib.hid (show Boxed W w.heap.size (.int .i64 0) (.slice none 0 0) (.int .i64 0) by subst hW; exact Boxed.new _ _ _ _)
  have HB := Lib.hid (show Below w.heap.size w W by subst hW; exact (Below.refl _ _).alloc (Nat.le_refl _) _)
  clear hW
  refine (newAny (len : Int) W).mono ?_
  rintro e w1 ⟨rfl, m1, b1⟩
  rw [HS.out] at m1
  have HM1 := Lib.hid m1
  have HT1 := Lib.hid (HT.out.keep b1)
  have HB1 := Lib.hid (HB.out.trans (b1.mono HB.out.size))
  have HX := Lib.hid (show w.heap.size < W.heap.size from HT.out.lt)
  clear b1 m1 HT
  go_wp2_with fail
  refine (refNew (len : Int) w1).mono ?_
  rintro e w2 ⟨rfl, b2⟩
  rw [HS.out]
  go_upto_region 3 with (fail)
  generalize hW3 : w2.alloc (.cells #[.int .i64 (len : Int), .slice none 0 0, .int .i64 0] 41) = W3
  have HBM := Lib.hid (show BM w w2.heap.size W.heap.size (.slice none 0 0) (.slice none 0 0) (len : Int) [] 0 [] 0 W3 by
    subst hW3
    have hb := b2.alloc b2.size (.cells #[.int .i64 (len : Int), .slice none 0 0, .int .i64 0] 41)
    have m := HM1.out.fresh hb
    refine ⟨⟨m.block, Nat.le_trans (Nat.le_of_lt HX.out) m.low, World.ownsRow_nil _ _ _ _, m.s0, m.s1, m.room⟩, World.ownsRow_nil _ _ _ _, by simp [Value.ownBlock], Boxed.new _ _ _ _, HT1.out.keep hb, ?_, HB1.out.trans (hb.mono HB1.out.size)⟩
    have := HT1.out.lt
    have := b2.size
    omega)
  clear hW3 b2 HM1 HT1 HB1 HB HX
  generalize w2.heap.size = rb at *
  generalize W.heap.size = p at *
  have C := refAllocOk (size := (len : Int)) (st := 0) HBM.out.o HBM.out.b.size len (by have := HL.out; omega) (by simp) (by simp) (by omega) (by omega)
  have c0 := HBM.out.r.c0
  have c1 := HBM.out.r.c1
  have c2 := HBM.out.r.c2
  go_wp2_with fail
  refine C.mono ?_
  clear C c0 c1 c2
  rintro e w4 ⟨u4, rfl, l4⟩
  have l4 : Left W3 w.heap.size (.slice none 0 0) (List.replicate len 0) u4 w4 := l4
  obtain ⟨a4, cp4, e4⟩ := ownShape l4.1
  rw [List.length_replicate] at e4
  subst e4
  have HAF := Lib.hid (AF.a HBM.out l4)
  clear l4 HBM
  go_upto_region 4 with (fail)
  generalize hW5 : w4.alloc (.cells #[.int .i64 (len : Int), .slice a4 len cp4, .int .i64 (0 + 1)] 41) = W5 at HAF
  have hW5' : w4.alloc (.cells #[.int .i64 (len : Int), .slice a4 len cp4, .int .i64 1] 41) = W5 := hW5
  rw [hW5']
  clear hW5 hW5'
  generalize w4.heap.size = nb at *
  have c0 := HAF.out.r2.c0
  have c1 := HAF.out.r2.c1
  have c2 := HAF.out.r2.c2
  have d0 := HAF.out.h.r.c0
  have d1 := HAF.out.h.r.c1
  have d2 := HAF.out.h.r.c2
  have df := HAF.out.h.r.f
  have C := HAF.out.turn.alloc len (by simp) (by omega) (by omega)
  go_wp2_with fail
  refine C.mono ?_
  clear C c0 c1 c2 d0 d1 d2 df
  rintro e w6 ⟨rfl, v6, bm6⟩
  have HM6 := Lib.hid (show BM w rb p v6 (.slice a4 len cp4) (len : Int) (setN (List.replicate len 0) 0 zs 0) (1 + ((0 : Nat) : Int)) (setN (List.replicate len 0) 0 zs 0) (1 + ((0 : Nat) : Int)) w6 from bm6)
  clear bm6 HAF
  go_wp2
  go_loopw [9] (fun iv wr => MemoRel w rb p zs iv wr) (fun iv _ => zs.length - (intOf iv).toNat)
  case atStart => exact ⟨0, v6, _, by omega, rfl, by rw [HE.out]; exact HM6.out⟩
  case round =>
    obtain ⟨k, v, u, hk, rfl, hbm⟩ := hrel
    have HBM := Lib.hid hbm
    clear hbm HM6
    rw [HE.out] at hk HBM
    obtain ⟨aq, cq, eq⟩ := ownShape HBM.out.o
    rw [setN_length, List.length_replicate] at eq
    subst eq
    by_cases hlt : k < len
    · have i0 : (k : Int) < (len : Int) := by omega
      obtain ⟨b, off, rfl, lb, hcs⟩ := HZ.out.2 (by have := HE.out; omega)
      have hck := hcs k (by have := HE.out; omega)
      have cz := (HBM.out.b.cell (p := ⟨b, off + k, none⟩) lb).trans hck
      clear hcs
      obtain ⟨z, hzz⟩ : ∃ z, zs.getD k 0 = z := ⟨_, rfl⟩
      obtain ⟨Y, hY⟩ : ∃ Y, setN (List.replicate len 0) 0 zs k = Y := ⟨_, rfl⟩
      obtain ⟨Z, hZ⟩ : ∃ Z, Y.set k z = Z := ⟨_, rfl⟩
      have HY1 := Lib.hid (show setN (List.replicate len 0) 0 zs (k + 1) = Z by rw [setN, hY, hzz, Nat.zero_add]; exact hZ)
      have hYl : Y.length = len := by rw [← hY, setN_length, List.length_replicate]
      have hZl : Z.length = len := by rw [← hZ, List.length_set]; exact hYl
      have HYL := Lib.hid hYl
      have HZL := Lib.hid hZl
      have HZ1 := Lib.hid hZ
      rw [hzz] at cz
      rw [hY] at HBM
      rw [hzz] at hck
      have HK := Lib.hid (show ∀ W, Below w.heap.size w W → W.cell? ⟨b, off + k, none⟩ = some (.int .i64 z) from fun W hW => (hW.cell (p := ⟨b, off + k, none⟩) lb).trans hck)
      clear hck
      clear hzz hY hZ hYl hZl
      have C := HBM.out.store (k : Int) z (by omega) (by have := HYL.out; omega) (by omega) (by omega)
      rw [show ((k : Int)).toNat = k by omega, HZ1.out] at C
      go_wp2_with fail
      refine C.mono ?_
      clear C cz
      rintro e w3 ⟨rfl, v3, bm3⟩
      have HB3 := Lib.hid bm3
      have HBd := Lib.hid (bm3.fresh (Below.refl _ _).drew)
      clear bm3 HBM
      have c0 := HK.out w3 HB3.out.b
      have c1 := HB3.out.r.c0
      have c2 := HB3.out.r.c1
      have c3 := HB3.out.r.c2
      have d0 := HK.out w3.drew HBd.out.b
      have d1 := HBd.out.r.c0
      have d2 := HBd.out.r.c1
      have d3 := HBd.out.r.c2
      go_upto_region 10 with (fail)
      go_cut [10, 11] from 44 to 53 (fun d x wx => ∃ (nb : Nat) (a2 : Option Addr) (cp2 : Nat), d = .pointer (some ⟨nb, 0, none⟩) ∧ x = .int .i64 0 ∧ Hid (AF w rb p nb v3 (.slice aq len cq) (.slice a2 len cp2) (len : Int) Z (1 + (k : Int) + 1) Y Z (1 + (k : Int)) wx))
      case first =>
        have HCA := Lib.hid (refStoreIn (size := (len : Int)) (st := 1 + (k : Int)) HBd.out.o HBd.out.b.size (k : Int) z (by omega) (by have := HYL.out; omega) (by have := HYL.out; have := HL.out; omega) (by omega) (by omega))
        have HCB := Lib.hid (refStoreIn (w := w3.drew.alloc (.cells #[.int .i64 0, .slice none 0 0, .int .i64 0] 41)) (size := (len : Int)) (st := 1 + (k : Int)) (HBd.out.o.alloc _) (Nat.le_trans HBd.out.b.size (by simp)) (k : Int) z (by omega) (by have := HYL.out; omega) (by have := HYL.out; have := HL.out; omega) (by omega) (by omega))
        rw [show ((k : Int)).toNat = k by omega, HZ1.out] at HCA HCB
        have hne : b ≠ w3.heap.size := by
          have := lb
          have := HB3.out.b.size
          omega
        have hnr : rb ≠ w3.heap.size := by
          have := HB3.out.r.lt
          omega
        have HNE := Lib.hid hne
        have HNR := Lib.hid hnr
        clear hne hnr
        have q0 : ((w3.alloc (.cells #[.int .i64 0, .slice none 0 0, .int .i64 0] 41)).drew).cell? ⟨b, off + k, none⟩ = some (.int .i64 z) := cellKept d0 _
        have q1 : ((w3.alloc (.cells #[.int .i64 0, .slice none 0 0, .int .i64 0] 41)).drew).cell? ⟨rb, 0, none⟩ = some (.int .i64 (len : Int)) := cellKept d1 _
        have q2 : ((w3.alloc (.cells #[.int .i64 0, .slice none 0 0, .int .i64 0] 41)).drew).cell? ⟨rb, 1, none⟩ = some (.slice aq len cq) := cellKept d2 _
        have q3 : ((w3.alloc (.cells #[.int .i64 0, .slice none 0 0, .int .i64 0] 41)).drew).cell? ⟨rb, 2, none⟩ = some (.int .i64 (1 + (k : Int))) := cellKept d3 _
        go_wp2
        go_region_held3 (fun w' => w'.cell? ⟨b, off + k, none⟩ = some (.int .i64 z) ∧ w'.cell? ⟨rb, 0, none⟩ = some (.int .i64 (len : Int)) ∧ w'.cell? ⟨rb, 1, none⟩ = some (.slice aq len cq) ∧ w'.cell? ⟨rb, 2, none⟩ = some (.int .i64 (1 + (k : Int)))) (((try dsimp only); first
          | with_reducible exact ⟨c0, c1, c2, c3⟩ | with_reducible exact ⟨d0, d1, d2, d3⟩ | with_reducible exact ⟨q0, q1, q2, q3⟩ | with_reducible exact ⟨cellKept c0 _, cellKept c1 _, cellKept c2 _, cellKept c3 _⟩ | with_reducible exact ⟨cellKept d0 _, cellKept d1 _, cellKept d2 _, cellKept d3 _⟩ | with_reducible exact ⟨x0, x1, x2, x3⟩ | with_reducible exact ⟨cellKept x0 _, cellKept x1 _, cellKept x2 _, cellKept x3 _⟩ | with_reducible exact ⟨other3 HNE.out x0 _ _ _, other3 HNR.out x1 _ _ _, other3 HNR.out x2 _ _ _, other3 HNR.out x3 _ _ _⟩))
          ((go_at_call 44; first
          | (refine HCA.out.mono ?_; rintro e w5 ⟨u5, rfl, l5⟩; obtain ⟨a5, cp5, e5⟩ := ownShape l5.1; rw [HZL.out] at e5; subst e5; have HF := Lib.hid (AF.a HBd.out l5); have hx := HBd.out.fresh l5.2.2; have x0 := HK.out w5 hx.b; have x1 := hx.r.c0; have x2 := hx.r.c1; have x3 := hx.r.c2; clear l5 hx)
          | (refine HCB.out.mono ?_; rintro e w5 ⟨u5, rfl, l5⟩; obtain ⟨a5, cp5, e5⟩ := ownShape l5.1; rw [HZL.out] at e5; subst e5; have HF := Lib.hid (AF.b HBd.out rfl l5); have hx := HBd.out.fresh (((Below.refl _ _).alloc (Nat.le_refl _) _).trans (l5.2.2.mono (by simp))); have x0 := HK.out w5 hx.b; have x1 := hx.r.c0; have x2 := hx.r.c1; have x3 := hx.r.c2; have hz := (Boxed.new w3.drew (.int .i64 0) (.slice none 0 0) (.int .i64 0)).keep l5.2.2; have y0 : w5.cell? ⟨w3.heap.size, 0, none⟩ = _ := hz.c0; have y1 : w5.cell? ⟨w3.heap.size, 1, none⟩ = _ := hz.c1; have y2 : w5.cell? ⟨w3.heap.size, 2, none⟩ = _ := hz.c2; have yf : ∀ o, w5.frozen? ⟨w3.heap.size, o, none⟩ = false := hz.f; clear l5 hx hz)))
        all_goals
          go_wp2
          go_meet
          exact ⟨_, _, _, rfl, rfl, HF⟩
      case' rest => skip
      obtain ⟨nb2, a2, cp2, rfl, rfl, HAF⟩ := hcut
      have e0 := HAF.out.r2.c0
      have e1 := HAF.out.r2.c1
      have e2 := HAF.out.r2.c2
      have g0 := HAF.out.h.r.c0
      have g1 := HAF.out.h.r.c1
      have g2 := HAF.out.h.r.c2
      have gf := HAF.out.h.r.f
      have HTN := Lib.hid HAF.out.turn
      clear c0 c1 c2 c3 d0 d1 d2 d3 HAF HB3 HBd
      go_wp2
      go_roundw
      case rel => exact ⟨k + 1, v3, _, by have := HE.out; omega, by go_num, by rw [HE.out, HY1.out, show (1 + ((k + 1 : Nat) : Int)) = 1 + (k : Int) + 1 by omega]; exact HTN.out⟩
      case measure => have := HE.out; simp [intOf]; omega
    · obtain rfl : k = len := by omega
      have HFIN := Lib.hid (show setN (List.replicate k 0) 0 zs k = zs by rw [← HE.out]; exact setN_all zs)
      rw [HFIN.out] at HBM
      have HBd := Lib.hid (HBM.out.fresh (Below.refl _ _).drew)
      have c1 := HBM.out.r.c0
      have c2 := HBM.out.r.c1
      have c3 := HBM.out.r.c2
      have d1 := HBd.out.r.c0
      have d2 := HBd.out.r.c1
      have d3 := HBd.out.r.c2
      have t0 := HBd.out.t.c0
      have t1 := HBd.out.t.c1
      have t2 := HBd.out.t.c2
      have tf := HBd.out.t.f
      have s0 := HBM.out.t.c0
      have s1 := HBM.out.t.c1
      have s2 := HBM.out.t.c2
      have sf := HBM.out.t.f
      have HNR := Lib.hid (show rb ≠ w.heap.size by have := HBM.out.l; omega)
      go_wp2
      go_region_held3 (fun w' => w'.cell? ⟨rb, 0, none⟩ = some (.int .i64 (k : Int)) ∧ w'.cell? ⟨rb, 1, none⟩ = some (.slice aq k cq) ∧ w'.cell? ⟨rb, 2, none⟩ = some (.int .i64 (1 + (k : Int)))) (first | with_reducible exact ⟨c1, c2, c3⟩ | with_reducible exact ⟨d1, d2, d3⟩ | with_reducible exact ⟨other3d HNR.out c1 _ _ _, other3d HNR.out c2 _ _ _, other3d HNR.out c3 _ _ _⟩) (fail)
      all_goals
        go_wp2
        have ne := own_ne_boxed HBM.out.o HBM.out.t
        have Z := ((HBM.out.t.set0 (.int .i64 (k : Int))).set1 (.slice aq k cq)).set2 (.int .i64 (1 + (k : Int)))
        have Zd : Boxed (((wr.setCell ⟨w.heap.size, 0, none⟩ (.int .i64 (k : Int))).setCell ⟨w.heap.size, 1, none⟩ (.slice aq k cq)).setCell ⟨w.heap.size, 2, none⟩ (.int .i64 (1 + (k : Int)))).drew w.heap.size (.int .i64 (k : Int)) (.slice aq k cq) (.int .i64 (1 + (k : Int))) := Z
        have hM := HBM.out.m
        have hp : w.heap.size ≠ p := by
          rintro e
          have e1 := hM.block
          have e2 := HBM.out.t
          unfold Boxed at e2
          rw [← e, e2] at e1
          simp at e1
        have hv := own_ne_boxed hM.own HBM.out.t
        refine bodyPost_ret (v := .tuple #[.pointer (some ⟨p, 0, none⟩), .agg #[.int .i64 (k : Int), .slice aq k cq, .int .i64 (1 + (k : Int))]]) (by simp [results, Tryz.results16, go_sem, Zd.c0, Zd.c1, Zd.c2]) rfl ⟨p, .slice aq k cq, v, by rw [HE.out], ?_, ?_, HBM.out.n, ?_⟩
        · rw [HE.out]
          exact (((hM.setOther (q := ⟨w.heap.size, 0, none⟩) hp hv _).setOther (q := ⟨w.heap.size, 1, none⟩) hp hv _).setOther (q := ⟨w.heap.size, 2, none⟩) hp hv _).drew
        · exact ownsRow_setCell_other (ownsRow_setCell_other (ownsRow_setCell_other HBM.out.o ne _) ne _) ne _
        · exact (((HBM.out.b.setCell (Nat.le_refl _) _).setCell (Nat.le_refl _) _).setCell (Nat.le_refl _) _).drew

end Go.Proofs.YtkbhemaijbkpbaaGreat.M2
