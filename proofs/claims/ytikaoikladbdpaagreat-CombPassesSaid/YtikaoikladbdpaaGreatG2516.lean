/-
  A memory and an object side by side; a step of who serves at them, whichever place it is at (Step of package comb). Conditions: a memory as Mem says, an object as Ob says, its values of 32 bits, their blocks apart; at most a thousand items; steps below a million. Who asks again while others are served, step by step, in plain numbers (CombAgain). Conditions: one record, that is on the list; one to five passes. Calls on a memory beside an object; how much longer a step makes a batch, and how many steps it counts. Conditions: a memory and an object as MO says; steps below a million.
-/
import Derived.Test.YtikaoikladbdpaaGreatStep16m
namespace Go.Proofs.YtikaoikladbdpaaGreat.M2
open Go.RowKit

structure SS where
  t : Th
  l : List It3
  zs : List Int
  c : Int
  s : List It × List Bool
  dn : List It3
def ssStep (pa k m : Int) (S : SS) : SS :=
  if S.t.pc = 36 then ⟨{ S.t with nt := 0, pc := 37 }, doL k m S.s S.l, S.zs, S.c, objS k m S.s (opsW S.l), doL k m S.s S.l⟩
  else ⟨(cst pa S.t S.zs S.l).t, (cst pa S.t S.zs S.l).l, (cst pa S.t S.zs S.l).zs, S.c + (cst pa S.t S.zs S.l).c, S.s, []⟩

structure MO (w : World) (p : Nat) (v : Value) (size : Int) (zs : List Int) (st : Int) (F : Nat → Prop) (o : Nat) (k m : Int) (pl : Bool) (s : List It × List Bool) (a : World) : Prop where
  me : Mem a w.heap.size p v size zs st
  ob : Ob a F o k m pl s
  v32 : V32 (vals s.1)
  f : ∀ g, F g → w.heap.size ≤ g
  np : ¬ F p
  nv : ∀ g, v.ownBlock = some g → ¬ F g
  b : Below w.heap.size w a

def Kp (F : Nat → Prop) (a b : World) : Prop := ∀ (q : Nat) (cs : Array Value) (ty : TypeId), a.heap[q]? = some (.cells cs ty (0, 0)) → ty ≠ 2 → ty ≠ 117 → ¬ F q → b.heap[q]? = some (.cells cs ty (0, 0))

section
variable {w a b : World} {p o n cap : Nat} {v : Value} {size : Int} {zs zs' : List Int} {st st' : Int} {F F' : Nat → Prop} {k m : Int} {pl : Bool} {s s' : List It × List Bool} {l : List It3}
theorem MO.fresh (h : MO w p v size zs st F o k m pl s a) (hb : Below a.heap.size a b) : MO w p v size zs st F o k m pl s b :=
  ⟨h.me.fresh hb, h.ob.fresh hb, h.v32, h.f, h.np, h.nv, h.b.trans (hb.mono h.b.size)⟩
theorem MO.did (h : MO w p v size zs st F o k m pl s a) (d : Did w.heap.size p v size zs' st' a b) : ∃ v', MO w p v' size zs' st' F o k m pl s b := by
  obtain ⟨v', m', wr, lt⟩ := d
  have hw : _root_.Go.Proofs.YtikaoikladbdpaaGreat.Wrote (fun q => q = p ∨ v.ownBlock = some q) a b := ⟨wr.os, wr.tape, wr.output, wr.size, fun q hq hne => wr.block q hq (fun e => hne (.inl e)) (fun e => hne (.inr e))⟩
  refine ⟨v', m', h.ob.apart hw (fun g hg e => ?_), h.v32, h.f, h.np, fun g hg hf => ?_, h.b.trans (wr.below h.b.size h.me.low (fun g hg => (h.me.rowLt hg).1))⟩
  · rcases e with rfl | e
    · exact h.np hg
    · exact h.nv g e hg
  · rcases lt g hg with e | e
    · exact h.nv g e hf
    · have := h.ob.foot g hf; omega
theorem MO.kp (h : MO w p v size zs st F o k m pl s a) (d : Did w.heap.size p v size zs' st' a b) : Kp F a b := fun q cs ty e h1 h2 _ => d.kept h.me q cs ty e h1 h2
theorem MO.done (h : MO w p v size zs st F o k m pl s a) (x : Ob b F' o k m pl s') (hv : V32 (vals s'.1)) (wr : _root_.Go.Proofs.YtikaoikladbdpaaGreat.Wrote F a b) (lt : _root_.Go.Proofs.YtikaoikladbdpaaGreat.Later F F' a) : MO w p v size zs st F' o k m pl s' b := by
  have rlt := fun g (hg : v.ownBlock = some g) => (h.me.rowLt hg).2
  refine ⟨h.me.keep (wr.block p h.me.lt h.np) (fun g hg => wr.block g (rlt g hg) (h.nv g hg)), x, hv, fun g hg => ?_, fun hf => ?_, fun g hg hf => ?_, h.b.trans (wr.below h.b.size h.f)⟩
  · rcases lt g hg with e | e
    · exact h.f g e
    · exact Nat.le_trans h.b.size e
  · rcases lt p hf with e | e
    · exact h.np e
    · have := h.me.lt; omega
  · rcases lt g hf with e | e
    · exact h.nv g hg e
    · have := rlt g hg; omega
theorem MO.box (h : MO w p v size zs st F o k m pl s a) {g : Nat} {cs : Array Value} {ty : TypeId} (hg : a.heap[g]? = some (.cells cs ty (0, 0))) (h1 : ty ≠ 2) (h2 : ty ≠ 117) (hF : ¬ F g) (lo : w.heap.size ≤ g) (wr : _root_.Go.Proofs.YtikaoikladbdpaaGreat.Wrote (fun q => q = g) a b) : MO w p v size zs st F o k m pl s b := by
  have ne : ∀ {q : Nat} {cs' : Array Value} {ty' : TypeId}, a.heap[q]? = some (Obj.cells cs' ty' (0, 0)) → ty' ≠ ty → b.heap[q]? = a.heap[q]? := fun {q cs' ty'} e hne => wr.block q (lt_of_block e) (fun e2 => by
    have e2 : q = g := e2
    subst e2
    rw [hg] at e
    simp only [Option.some.injEq, Obj.cells.injEq] at e
    exact hne e.2.1.symm)
  refine ⟨h.me.keep (ne h.me.block (Ne.symm h2)) (fun q hq => ?_), h.ob.apart wr (fun q hq e => by have e : q = g := e; subst e; exact hF hq), h.v32, h.f, h.np, h.nv, h.b.trans (wr.below h.b.size (fun q hq => by have hq : q = g := hq; omega))⟩
  rcases h.me.own.2 with ⟨rfl, _⟩ | ⟨g', cap, cur, rfl, _, hgg, _⟩
  · simp [Value.ownBlock] at hq
  · simp only [Value.ownBlock, Option.some.injEq] at hq
    subst hq
    exact ne hgg (Ne.symm h1)
theorem Kp.wrote (wr : _root_.Go.Proofs.YtikaoikladbdpaaGreat.Wrote F a b) : Kp F a b := fun q _ _ e _ _ hF => (wr.block q (lt_of_block e) hF).trans e
theorem BR.kp {M : Nat} {x : Value} (r : BR M a x l) (kp : Kp F a b) (hF : ∀ g, x.ownBlock = some g → ¬ F g) : BR M b x l := r.keep fun g hg => by
  obtain ⟨cs, hc⟩ := r.block hg
  exact (kp g _ _ hc (by decide) (by decide) (hF g hg)).trans hc.symm
theorem TX.kp {g : Nat} {t : Th} {x : Value} (r : TX a g t x) (kp : Kp F a b) (hF : ¬ F g) : TX b g t x := kp g _ _ r (by decide) (by decide) hF

def StepMO (w : World) (p : Nat) (size : Int) (F : Nat → Prop) (o : Nat) (k m : Int) (pl : Bool) (S : SS) (a : World) (e : Ending) (b : World) : Prop :=
  ∃ v' F' x d, e = .returned (.tuple #[thV S.t x, d]) ∧ MO w p v' size S.zs S.c F' o k m pl S.s b ∧ BR a.heap.size b x S.l ∧ BR a.heap.size b d S.dn ∧ (∀ g, x.ownBlock = some g → ¬ F' g) ∧ (∀ g, d.ownBlock = some g → ¬ F' g) ∧ Kp F a b ∧ _root_.Go.Proofs.YtikaoikladbdpaaGreat.Later F F' a ∧ a.heap.size ≤ b.heap.size

theorem stepMO (h : MO w p v size zs st F o k m pl s a) (pa : Int) (t : Th) (ao : Option Addr) (hi : Its a ao n l) (hc : ao = none → cap = 0) (hl : l.length ≤ 1000) (k0 : 0 ≤ st) (k1 : st < 1000000) (dn : List It3) :
    Calls Tryz.prog 18 #[.pointer (some ⟨p, 0, none⟩), .pointer (some ⟨o, 0, none⟩), .int .i64 pa, thV t (.slice ao n cap)] a (StepMO w p size F o k m pl (ssStep pa k m ⟨t, l, zs, st, s, dn⟩) a) := by
  by_cases hp : t.pc = 36
  · have e : ssStep pa k m ⟨t, l, zs, st, s, dn⟩ = ⟨{ t with nt := 0, pc := 37 }, doL k m s l, zs, st, objS k m s (opsW l), doL k m s l⟩ := if_pos hp
    rw [e]
    refine (stepD a h.ob h.v32 pa t ao n cap l hi hc hl hp).mono ?_
    rintro e b ⟨x, d, F', rfl, r1, r2, o', n1, n2, wr, lt⟩
    exact ⟨v, F', x, d, rfl, h.done o' (objS_ok h.v32 (opsW_ok l)) wr lt, r1, r2, n1, n2, Kp.wrote wr, lt, wr.size⟩
  · have e : ssStep pa k m ⟨t, l, zs, st, s, dn⟩ = ⟨(cst pa t zs l).t, (cst pa t zs l).l, (cst pa t zs l).zs, st + (cst pa t zs l).c, s, []⟩ := if_neg hp
    rw [e]
    refine (stepC a h.me pa t ao n cap l hi hc hl hp k0 k1).mono ?_
    rintro e b ⟨x, rfl, r1, d⟩
    obtain ⟨v', h'⟩ := h.did d
    have hsz : a.heap.size ≤ b.heap.size := by obtain ⟨_, _, wr, _⟩ := d; exact wr.size
    exact ⟨v', F, x, _, rfl, h', r1, BR.nil _ _, fun g hg hf => by have := (r1.lt g hg).1; have := h.ob.foot g hf; omega, fun g hg => by simp [Value.ownBlock] at hg, h.kp d, _root_.Go.Proofs.YtikaoikladbdpaaGreat.Later.refl _ _, hsz⟩
end

end Go.Proofs.YtikaoikladbdpaaGreat.M2
namespace Go.Proofs.YtikaoikladbdpaaGreat.M2
open Go.RowKit

def agStep (pa W : Int) (x : SS × Nat) : SS × Nat :=
  if ld (ssStep pa 1 10 x.1).zs 3 = 0 ∧ x.2 < 9 then
    ({ ssStep pa 1 10 x.1 with zs := sto (ssStep pa 1 10 x.1).zs 3 W, c := (ssStep pa 1 10 x.1).c + cn (ssStep pa 1 10 x.1).zs 3 + cn (ssStep pa 1 10 x.1).zs 3 }, x.2 + 1)
  else ({ ssStep pa 1 10 x.1 with c := (ssStep pa 1 10 x.1).c + cn (ssStep pa 1 10 x.1).zs 3 }, x.2)
def agIt (pa W : Int) (x : SS × Nat) : Nat → SS × Nat
  | 0 => x
  | j + 1 => agStep pa W (agIt pa W x j)
def srv (S : SS) : Bool := decide (20 ≤ S.t.pc ∧ S.t.pc ≤ 39)

theorem agIt_add (pa W : Int) (x : SS × Nat) (a : Nat) : ∀ b, agIt pa W x (a + b) = agIt pa W (agIt pa W x a) b
  | 0 => rfl
  | b + 1 => by rw [← Nat.add_assoc]; show agStep pa W (agIt pa W x (a + b)) = _; rw [agIt_add pa W x a b]; rfl

theorem ad_small {x : Int} (h0 : 0 ≤ x) (h1 : x ≤ 1000000) : ad x 1 = x + 1 := by unfold ad wrap64; omega

section
variable {pa W ti rc sq wo lk cu pv nt mx ps rn i R A T c : Int} {l dn : List It3} {s : List It × List Bool} {q : Nat}
theorem ag20 (hR : R ≠ 0) : agStep pa W (⟨⟨ti, 20, rc, sq, wo, lk, cu, pv, nt, mx, ps, rn⟩, l, [1, 3, i, R, 1, A, 0, T], c, s, dn⟩, q) = (⟨⟨ti, 21, rc, sq, wo, i, cu, pv, nt, mx, ps, rn⟩, l, [1, 3, i, R, 1, A, 0, T], c + 1 + 1, s, []⟩, q) := by
  simp [agStep, ssStep, cst, ld, cn, hR]
theorem ag21 (hR : R ≠ 0) (h0 : 0 ≤ i) (h1 : i ≤ 10) (h2 : 0 ≤ rn) (h3 : rn ≤ 10) : agStep pa W (⟨⟨ti, 21, rc, sq, wo, i, cu, pv, nt, mx, ps, rn⟩, l, [1, 3, i, R, 1, A, 0, T], c, s, dn⟩, q) = (⟨⟨ti, 22, rc, sq, wo, i, cu, pv, nt, mx, i + 1, rn + 1⟩, l, [1, 3, i + 1, R, 1, A, 0, T], c + 1 + 1, s, []⟩, q) := by
  simp [agStep, ssStep, cst, ld, cn, sto, hR, ad_small h0 (by omega), ad_small h2 (by omega)]
theorem ag22 (hR : R ≠ 0) : agStep pa W (⟨⟨ti, 22, rc, sq, wo, lk, cu, pv, nt, mx, ps, rn⟩, l, [1, 3, i, R, 1, A, 0, T], c, s, dn⟩, q) = (⟨⟨ti, 23, rc, sq, wo, lk, cu, pv, 0, 1, ps, rn⟩, [], [1, 3, i, R, 1, A, 0, T], c + 0 + 1, s, []⟩, q) := by
  simp [agStep, ssStep, cst, ld, cn, hR, mn, fk]
theorem ag23 (hR : R ≠ 0) : agStep pa W (⟨⟨ti, 23, rc, sq, wo, lk, cu, pv, 0, 1, ps, rn⟩, [], [1, 3, i, R, 1, A, 0, T], c, s, dn⟩, q) = (⟨⟨ti, 33, rc, sq, wo, 1, 3, pv, 1, 1, ps, rn⟩, [], [1, 3, i, R, 1, A, 0, T], c + 1 + 1, s, []⟩, q) := by
  have e : ad 3 1 = 4 := by unfold ad wrap64; omega
  have e0 : ad 0 1 = 1 := by unfold ad wrap64; omega
  have eb : bs 0 = 3 := by unfold bs; decide
  simp [agStep, ssStep, cst, ld, cn, hR, hlT, onT, eb, e, e0, fk]
theorem ag33 (hR : R ≠ 0) : agStep pa W (⟨⟨ti, 33, rc, sq, wo, lk, cu, pv, nt, mx, ps, rn⟩, l, [1, 3, i, R, 1, A, 0, T], c, s, dn⟩, q) = (⟨⟨ti, 34, rc, sq, wo, 3, 3, pv, nt, mx, ps, rn⟩, l, [1, 3, i, R, 1, A, 0, T], c + 1 + 1, s, []⟩, q) := by
  simp [agStep, ssStep, cst, ld, cn, hR, foT]
theorem ag34 (hR : 0 < R) : agStep pa W (⟨⟨ti, 34, rc, sq, wo, lk, 3, pv, nt, mx, ps, rn⟩, [], [1, 3, i, R, 1, A, 0, T], c, s, dn⟩, q) = (⟨⟨ti, 35, rc, sq, wo, R, 3, pv, nt, mx, ps, rn⟩, [(3, R, 0)], [1, 3, i, R, 1, A, 0, T], c + 1 + 1, s, []⟩, q) := by
  have e : ad 3 0 = 3 := by unfold ad wrap64; omega
  have hR' : R ≠ 0 := by omega
  simp [agStep, ssStep, cst, ld, cn, hR', hR, e]
theorem ag35 (hR : R ≠ 0) : agStep pa W (⟨⟨ti, 35, rc, sq, wo, lk, 3, pv, nt, mx, ps, rn⟩, [(3, R, 0)], [1, 3, i, R, 1, A, 0, T], c, s, dn⟩, q) = (⟨⟨ti, 36, rc, sq, wo, 0, 3, pv, nt, mx, ps, rn⟩, [(3, R, 0)], [1, 3, i, R, 1, A, 0, T], c + 1 + 1, s, []⟩, q) := by
  have e : ad 3 3 = 6 := by unfold ad wrap64; omega
  simp [agStep, ssStep, cst, ld, cn, hR, e, foT]
theorem ag36 (hR : R ≠ 0) : agStep pa W (⟨⟨ti, 36, rc, sq, wo, lk, cu, pv, nt, mx, ps, rn⟩, [(3, R, 0)], [1, 3, i, R, 1, A, 0, T], c, s, dn⟩, q) = (⟨⟨ti, 37, rc, sq, wo, lk, cu, pv, 0, mx, ps, rn⟩, doL 1 10 s [(3, R, 0)], [1, 3, i, R, 1, A, 0, T], c + 1, objS 1 10 s (opsW [(3, R, 0)]), doL 1 10 s [(3, R, 0)]⟩, q) := by
  simp [agStep, ssStep, ld, cn, hR]
theorem ag37 {Y : Int} (hR : R ≠ 0) : agStep pa W (⟨⟨ti, 37, rc, sq, wo, lk, cu, pv, 0, mx, ps, rn⟩, [(3, R, Y)], [1, 3, i, R, 1, A, 0, T], c, s, dn⟩, q) = (⟨⟨ti, 38, rc, sq, wo, lk, cu, pv, 0, mx, ps, rn⟩, [(3, R, Y)], [1, 3, i, R, 1, A, 0, Y], c + 1 + 1, s, []⟩, q) := by
  have e : ad 3 4 = 7 := by unfold ad wrap64; omega
  simp [agStep, ssStep, cst, ld, cn, hR, itS, itC, itB, itG, e, sto]
theorem ag38 {Y : Int} (hR : R ≠ 0) : agStep pa W (⟨⟨ti, 38, rc, sq, wo, lk, cu, pv, 0, mx, ps, rn⟩, [(3, R, Y)], [1, 3, i, R, 1, A, 0, T], c, s, dn⟩, q) = (⟨⟨ti, 39, rc, sq, wo, lk, cu, pv, 0, mx, ps, rn⟩, [(3, R, Y)], [1, 3, i, R, 1, ps, 0, T], c + 1 + 1, s, []⟩, q) := by
  have e : ad 3 2 = 5 := by unfold ad wrap64; omega
  simp [agStep, ssStep, cst, ld, cn, hR, itS, itC, itB, itG, e, sto]
theorem ag39 {Y : Int} (hq : q < 9) : agStep pa W (⟨⟨ti, 39, rc, sq, wo, lk, cu, pv, 0, mx, ps, rn⟩, [(3, R, Y)], [1, 3, i, R, 1, A, 0, T], c, s, dn⟩, q) = (⟨⟨ti, fk (decide (rn < pa)) 20 40, rc, sq, wo, lk, cu, pv, 1, mx, ps, rn⟩, [(3, R, Y)], [1, 3, i, W, 1, A, 0, T], c + 1 + 1 + 1, s, []⟩, q + 1) := by
  have e : ad 3 0 = 3 := by unfold ad wrap64; omega
  have e0 : ad 0 1 = 1 := by unfold ad wrap64; omega
  simp [agStep, ssStep, cst, ld, cn, hq, itS, itC, itB, itG, e, e0, sto, frT]
end

def AgP (i : Nat) (W : Int) (x : SS × Nat) : Prop := ∃ ti rc sq wo lk cu pv nt mx ps A T c s dn l R, x = (⟨⟨ti, 20, rc, sq, wo, lk, cu, pv, nt, mx, ps, (i : Int)⟩, l, [1, 3, (i : Int), R, 1, A, 0, T], c, s, dn⟩, i) ∧ (1 ≤ R ∧ R ≤ 1099511627776 ∧ kd R = 1) ∧ s.1.length = i
def AgE (n : Nat) (x : SS × Nat) : Prop := x.1.t.pc = 40 ∧ x.1.t.rn = n ∧ ld x.1.zs 2 = n ∧ x.1.zs.length = 8 ∧ (vals x.1.s.1).length = n

theorem agPass {i n : Nat} {W : Int} (hi : i < n) (hn : n ≤ 5) (hW : 1 ≤ W ∧ W ≤ 1099511627776 ∧ kd W = 1) {x : SS × Nat} (h : AgP i W x) :
    (∀ j, j < 11 → srv (agIt n W x j).1 = true) ∧ (if i + 1 < n then AgP (i + 1) W (agIt n W x 11) else AgE n (agIt n W x 11)) := by
  obtain ⟨ti, rc, sq, wo, lk, cu, pv, nt, mx, ps, A, T, c, s, dn, l, R, rfl, ⟨hR1, hR2, hR3⟩, hs⟩ := h
  have hR0 : R ≠ 0 := by omega
  have hRp : 0 < R := by omega
  have hok : okW R = true := decide_eq_true ⟨hR1, hR2⟩
  have e36 : doL 1 10 s [(3, R, 0)] = [(3, R, wd (objC 1 10 (vals s.1) (opW (3, R, 0)).1) (objV 1 (vals s.1) (opW (3, R, 0)).1))] := by
    show srvL _ (batT 1 10 (vals s.1) [opW (3, R, 0)]) = _
    rw [batT_one]
    rfl
  obtain ⟨Y, hY⟩ : ∃ Y, wd (objC 1 10 (vals s.1) (opW (3, R, 0)).1) (objV 1 (vals s.1) (opW (3, R, 0)).1) = Y := ⟨_, rfl⟩
  rw [hY] at e36
  have hv : (vals s.1).length = i := by rw [vals_length]; exact hs
  have es : (objS 1 10 s (opsW [(3, R, 0)])).1.length = i + 1 := by
    have h1 : vals (objS 1 10 s (opsW [(3, R, 0)])).1 = objL 1 10 (vals s.1) (opW (3, R, 0)).1 (opW (3, R, 0)).2 := by
      rw [objS_vals]
      show batZ 1 10 (vals s.1) [opW (3, R, 0)] = _
      rw [batZ_one]
    have h2 : (opW (3, R, 0)).1 = 1 := by
      show rK R = 1
      unfold rK
      rw [if_pos hok]
      exact hR3
    have h3 : (vals (objS 1 10 s (opsW [(3, R, 0)])).1).length = i + 1 := by
      rw [h1, h2]
      have h10 : (i : Int) < 10 := by omega
      simp [objL, stkL, hv, h10]
    rwa [vals_length] at h3
  obtain ⟨X, hX⟩ : ∃ X : SS × Nat, X = (⟨⟨ti, 20, rc, sq, wo, lk, cu, pv, nt, mx, ps, (i : Int)⟩, l, [1, 3, (i : Int), R, 1, A, 0, T], c, s, dn⟩, i) := ⟨_, rfl⟩
  rw [← hX]
  have s0 : agIt n W X 0 = _ := hX
  have s1 : agIt n W X 1 = _ := (congrArg (agStep n W) s0).trans (ag20 hR0)
  have s2 : agIt n W X 2 = _ := (congrArg (agStep n W) s1).trans (ag21 hR0 (by omega) (by omega) (by omega) (by omega))
  have s3 : agIt n W X 3 = _ := (congrArg (agStep n W) s2).trans (ag22 hR0)
  have s4 : agIt n W X 4 = _ := (congrArg (agStep n W) s3).trans (ag23 hR0)
  have s5 : agIt n W X 5 = _ := (congrArg (agStep n W) s4).trans (ag33 hR0)
  have s6 : agIt n W X 6 = _ := (congrArg (agStep n W) s5).trans (ag34 hRp)
  have s7 : agIt n W X 7 = _ := (congrArg (agStep n W) s6).trans (ag35 hR0)
  have s8 : agIt n W X 8 = _ := (congrArg (agStep n W) s7).trans (ag36 hR0)
  rw [e36] at s8
  have s9 : agIt n W X 9 = _ := (congrArg (agStep n W) s8).trans (ag37 hR0)
  have s10 : agIt n W X 10 = _ := (congrArg (agStep n W) s9).trans (ag38 hR0)
  have s11 : agIt n W X 11 = _ := (congrArg (agStep n W) s10).trans (ag39 (by omega))
  have v : ∀ {j : Nat} {Y : SS × Nat}, agIt n W X j = Y → srv Y.1 = true → srv (agIt n W X j).1 = true := fun h1 h2 => by rw [h1]; exact h2
  refine ⟨fun j hj => ?_, ?_⟩
  · rcases (show j = 0 ∨ j = 1 ∨ j = 2 ∨ j = 3 ∨ j = 4 ∨ j = 5 ∨ j = 6 ∨ j = 7 ∨ j = 8 ∨ j = 9 ∨ j = 10 by omega) with rfl | rfl | rfl | rfl | rfl | rfl | rfl | rfl | rfl | rfl | rfl
    · exact v s0 rfl
    · exact v s1 rfl
    · exact v s2 rfl
    · exact v s3 rfl
    · exact v s4 rfl
    · exact v s5 rfl
    · exact v s6 rfl
    · exact v s7 rfl
    · exact v s8 rfl
    · exact v s9 rfl
    · exact v s10 rfl
  · by_cases hlt : i + 1 < n
    · rw [if_pos hlt, s11]
      have hd : fk (decide ((i : Int) + 1 < (n : Int))) 20 40 = 20 := by rw [decide_eq_true (by omega)]; rfl
      rw [hd]
      exact ⟨ti, rc, sq, wo, 0, 3, pv, 1, 1, (i : Int) + 1, (i : Int) + 1, Y, _, _, _, _, W, rfl, hW, es⟩
    · rw [if_neg hlt, s11]
      have hd : fk (decide ((i : Int) + 1 < (n : Int))) 20 40 = 40 := by rw [decide_eq_false (by omega)]; rfl
      rw [hd]
      exact ⟨rfl, by show (i : Int) + 1 = n; omega, by show ld _ 2 = _; simp [ld]; omega, rfl, by rw [vals_length]; show (objS 1 10 s (opsW [(3, R, 0)])).1.length = n; rw [es]; omega⟩

theorem agAll {n : Nat} {W : Int} (hn : n ≤ 5) (hW : 1 ≤ W ∧ W ≤ 1099511627776 ∧ kd W = 1) : ∀ (d i : Nat), i + (d + 1) = n → ∀ {x : SS × Nat}, AgP i W x → ∃ K, K ≤ 11 * (d + 1) ∧ (∀ j, j < K → srv (agIt n W x j).1 = true) ∧ AgE n (agIt n W x K)
  | 0, i, hd, x, h => by
    obtain ⟨h1, h2⟩ := agPass (by omega) hn hW h
    rw [if_neg (by omega)] at h2
    exact ⟨11, by omega, h1, h2⟩
  | d + 1, i, hd, x, h => by
    obtain ⟨h1, h2⟩ := agPass (n := n) (by omega) hn hW h
    rw [if_pos (by omega)] at h2
    obtain ⟨K, hK, h3, h4⟩ := agAll hn hW d (i + 1) (by omega) h2
    refine ⟨11 + K, by omega, fun j hj => ?_, by rw [agIt_add]; exact h4⟩
    by_cases hj2 : j < 11
    · exact h1 j hj2
    · obtain ⟨r, rfl⟩ : ∃ r, j = 11 + r := ⟨j - 11, by omega⟩
      rw [agIt_add]
      exact h3 r (by omega)

end Go.Proofs.YtikaoikladbdpaaGreat.M2
namespace Go.Proofs.YtikaoikladbdpaaGreat.M2
open Go.RowKit

section
variable {w a : World} {p o : Nat} {v : Value} {size : Int} {zs : List Int} {st : Int} {F : Nat → Prop} {k m : Int} {pl : Bool} {s : List It × List Bool}
theorem MO.loadC (h : MO w p v size zs st F o k m pl s a) (x : Int) (k0 : 0 ≤ st) (k1 : st < 1000000) :
    Calls Tryz.prog 36 #[.pointer (some ⟨p, 0, none⟩), .int .i64 x] a fun e b => e = .returned (.tuple #[.int .i64 (ld zs x), .int .u16 (ce zs x)]) ∧ ∃ v', MO w p v' size zs (st + cn zs x) F o k m pl s b ∧ Kp F a b ∧ a.heap.size ≤ b.heap.size :=
  (loadD h.me x k0 k1).mono fun e b ⟨he, d⟩ => by
    obtain ⟨v', h'⟩ := h.did d
    exact ⟨he, v', h', h.kp d, by obtain ⟨_, _, wr, _⟩ := d; exact wr.size⟩
theorem MO.storeC (h : MO w p v size zs st F o k m pl s a) (x y : Int) (k0 : 0 ≤ st) (k1 : st < 1000000) :
    Calls Tryz.prog 37 #[.pointer (some ⟨p, 0, none⟩), .int .i64 x, .int .i64 y] a fun e b => e = .returned (.int .u16 (ce zs x)) ∧ ∃ v', MO w p v' size (sto zs x y) (st + cn zs x) F o k m pl s b ∧ Kp F a b ∧ a.heap.size ≤ b.heap.size :=
  (storeD h.me x y k0 k1).mono fun e b ⟨he, d⟩ => by
    obtain ⟨v', h'⟩ := h.did d
    exact ⟨he, v', h', h.kp d, by obtain ⟨_, _, wr, _⟩ := d; exact wr.size⟩
end

theorem itC_bd (is : Bool) (zs : List Int) (a : Int) : 0 ≤ itC is zs a ∧ itC is zs a ≤ 1 := by
  cases is
  · exact ⟨Int.le_refl _, by show (0 : Int) ≤ 1; omega⟩
  · exact cn_bd zs a
theorem cst_c (pa : Int) (t : Th) (zs : List Int) (l : List It3) : 0 ≤ (cst pa t zs l).c ∧ (cst pa t zs l).c ≤ 1 := by
  by_cases h20 : t.pc = 20
  · rw [cst20 pa t zs l h20]; first | exact cn_bd _ _ | exact itC_bd _ _ _ | exact ⟨Int.le_refl _, by show (0 : Int) ≤ 1; omega⟩
  by_cases h21 : t.pc = 21
  · rw [cst21 pa t zs l h21]; first | exact cn_bd _ _ | exact itC_bd _ _ _ | exact ⟨Int.le_refl _, by show (0 : Int) ≤ 1; omega⟩
  by_cases h22 : t.pc = 22
  · rw [cst22 pa t zs l h22]; first | exact cn_bd _ _ | exact itC_bd _ _ _ | exact ⟨Int.le_refl _, by show (0 : Int) ≤ 1; omega⟩
  by_cases h23 : t.pc = 23
  · rw [cst23 pa t zs l h23]; first | exact cn_bd _ _ | exact itC_bd _ _ _ | exact ⟨Int.le_refl _, by show (0 : Int) ≤ 1; omega⟩
  by_cases h24 : t.pc = 24
  · rw [cst24 pa t zs l h24]; first | exact cn_bd _ _ | exact itC_bd _ _ _ | exact ⟨Int.le_refl _, by show (0 : Int) ≤ 1; omega⟩
  by_cases h25 : t.pc = 25
  · rw [cst25 pa t zs l h25]; first | exact cn_bd _ _ | exact itC_bd _ _ _ | exact ⟨Int.le_refl _, by show (0 : Int) ≤ 1; omega⟩
  by_cases h26 : t.pc = 26
  · rw [cst26 pa t zs l h26]; first | exact cn_bd _ _ | exact itC_bd _ _ _ | exact ⟨Int.le_refl _, by show (0 : Int) ≤ 1; omega⟩
  by_cases h27 : t.pc = 27
  · rw [cst27 pa t zs l h27]; first | exact cn_bd _ _ | exact itC_bd _ _ _ | exact ⟨Int.le_refl _, by show (0 : Int) ≤ 1; omega⟩
  by_cases h28 : t.pc = 28
  · rw [cst28 pa t zs l h28]; first | exact cn_bd _ _ | exact itC_bd _ _ _ | exact ⟨Int.le_refl _, by show (0 : Int) ≤ 1; omega⟩
  by_cases h29 : t.pc = 29
  · rw [cst29 pa t zs l h29]; first | exact cn_bd _ _ | exact itC_bd _ _ _ | exact ⟨Int.le_refl _, by show (0 : Int) ≤ 1; omega⟩
  by_cases h30 : t.pc = 30
  · rw [cst30 pa t zs l h30]; first | exact cn_bd _ _ | exact itC_bd _ _ _ | exact ⟨Int.le_refl _, by show (0 : Int) ≤ 1; omega⟩
  by_cases h31 : t.pc = 31
  · rw [cst31 pa t zs l h31]; first | exact cn_bd _ _ | exact itC_bd _ _ _ | exact ⟨Int.le_refl _, by show (0 : Int) ≤ 1; omega⟩
  by_cases h32 : t.pc = 32
  · rw [cst32 pa t zs l h32]; first | exact cn_bd _ _ | exact itC_bd _ _ _ | exact ⟨Int.le_refl _, by show (0 : Int) ≤ 1; omega⟩
  by_cases h33 : t.pc = 33
  · rw [cst33 pa t zs l h33]; first | exact cn_bd _ _ | exact itC_bd _ _ _ | exact ⟨Int.le_refl _, by show (0 : Int) ≤ 1; omega⟩
  by_cases h34 : t.pc = 34
  · rw [cst34 pa t zs l h34]; first | exact cn_bd _ _ | exact itC_bd _ _ _ | exact ⟨Int.le_refl _, by show (0 : Int) ≤ 1; omega⟩
  by_cases h35 : t.pc = 35
  · rw [cst35 pa t zs l h35]; first | exact cn_bd _ _ | exact itC_bd _ _ _ | exact ⟨Int.le_refl _, by show (0 : Int) ≤ 1; omega⟩
  by_cases h37 : t.pc = 37
  · rw [cst37 pa t zs l h37]; first | exact cn_bd _ _ | exact itC_bd _ _ _ | exact ⟨Int.le_refl _, by show (0 : Int) ≤ 1; omega⟩
  by_cases h38 : t.pc = 38
  · rw [cst38 pa t zs l h38]; first | exact cn_bd _ _ | exact itC_bd _ _ _ | exact ⟨Int.le_refl _, by show (0 : Int) ≤ 1; omega⟩
  by_cases h39 : t.pc = 39
  · rw [cst39 pa t zs l h39]; first | exact cn_bd _ _ | exact itC_bd _ _ _ | exact ⟨Int.le_refl _, by show (0 : Int) ≤ 1; omega⟩
  rw [cst0 pa t zs l (by omega)]
  exact ⟨Int.le_refl _, by show (0 : Int) ≤ 1; omega⟩
theorem cst_l (pa : Int) (t : Th) (zs : List Int) (l : List It3) : (cst pa t zs l).l.length ≤ l.length + 1 := by
  by_cases h20 : t.pc = 20
  · rw [cst20 pa t zs l h20]; first | exact Nat.le_succ _ | exact Nat.zero_le _ | (show (if 0 < ld zs (ad t.cu 0) then l ++ [(t.cu, ld zs (ad t.cu 0), 0)] else l).length ≤ l.length + 1; split <;> simp)
  by_cases h21 : t.pc = 21
  · rw [cst21 pa t zs l h21]; first | exact Nat.le_succ _ | exact Nat.zero_le _ | (show (if 0 < ld zs (ad t.cu 0) then l ++ [(t.cu, ld zs (ad t.cu 0), 0)] else l).length ≤ l.length + 1; split <;> simp)
  by_cases h22 : t.pc = 22
  · rw [cst22 pa t zs l h22]; first | exact Nat.le_succ _ | exact Nat.zero_le _ | (show (if 0 < ld zs (ad t.cu 0) then l ++ [(t.cu, ld zs (ad t.cu 0), 0)] else l).length ≤ l.length + 1; split <;> simp)
  by_cases h23 : t.pc = 23
  · rw [cst23 pa t zs l h23]; first | exact Nat.le_succ _ | exact Nat.zero_le _ | (show (if 0 < ld zs (ad t.cu 0) then l ++ [(t.cu, ld zs (ad t.cu 0), 0)] else l).length ≤ l.length + 1; split <;> simp)
  by_cases h24 : t.pc = 24
  · rw [cst24 pa t zs l h24]; first | exact Nat.le_succ _ | exact Nat.zero_le _ | (show (if 0 < ld zs (ad t.cu 0) then l ++ [(t.cu, ld zs (ad t.cu 0), 0)] else l).length ≤ l.length + 1; split <;> simp)
  by_cases h25 : t.pc = 25
  · rw [cst25 pa t zs l h25]; first | exact Nat.le_succ _ | exact Nat.zero_le _ | (show (if 0 < ld zs (ad t.cu 0) then l ++ [(t.cu, ld zs (ad t.cu 0), 0)] else l).length ≤ l.length + 1; split <;> simp)
  by_cases h26 : t.pc = 26
  · rw [cst26 pa t zs l h26]; first | exact Nat.le_succ _ | exact Nat.zero_le _ | (show (if 0 < ld zs (ad t.cu 0) then l ++ [(t.cu, ld zs (ad t.cu 0), 0)] else l).length ≤ l.length + 1; split <;> simp)
  by_cases h27 : t.pc = 27
  · rw [cst27 pa t zs l h27]; first | exact Nat.le_succ _ | exact Nat.zero_le _ | (show (if 0 < ld zs (ad t.cu 0) then l ++ [(t.cu, ld zs (ad t.cu 0), 0)] else l).length ≤ l.length + 1; split <;> simp)
  by_cases h28 : t.pc = 28
  · rw [cst28 pa t zs l h28]; first | exact Nat.le_succ _ | exact Nat.zero_le _ | (show (if 0 < ld zs (ad t.cu 0) then l ++ [(t.cu, ld zs (ad t.cu 0), 0)] else l).length ≤ l.length + 1; split <;> simp)
  by_cases h29 : t.pc = 29
  · rw [cst29 pa t zs l h29]; first | exact Nat.le_succ _ | exact Nat.zero_le _ | (show (if 0 < ld zs (ad t.cu 0) then l ++ [(t.cu, ld zs (ad t.cu 0), 0)] else l).length ≤ l.length + 1; split <;> simp)
  by_cases h30 : t.pc = 30
  · rw [cst30 pa t zs l h30]; first | exact Nat.le_succ _ | exact Nat.zero_le _ | (show (if 0 < ld zs (ad t.cu 0) then l ++ [(t.cu, ld zs (ad t.cu 0), 0)] else l).length ≤ l.length + 1; split <;> simp)
  by_cases h31 : t.pc = 31
  · rw [cst31 pa t zs l h31]; first | exact Nat.le_succ _ | exact Nat.zero_le _ | (show (if 0 < ld zs (ad t.cu 0) then l ++ [(t.cu, ld zs (ad t.cu 0), 0)] else l).length ≤ l.length + 1; split <;> simp)
  by_cases h32 : t.pc = 32
  · rw [cst32 pa t zs l h32]; first | exact Nat.le_succ _ | exact Nat.zero_le _ | (show (if 0 < ld zs (ad t.cu 0) then l ++ [(t.cu, ld zs (ad t.cu 0), 0)] else l).length ≤ l.length + 1; split <;> simp)
  by_cases h33 : t.pc = 33
  · rw [cst33 pa t zs l h33]; first | exact Nat.le_succ _ | exact Nat.zero_le _ | (show (if 0 < ld zs (ad t.cu 0) then l ++ [(t.cu, ld zs (ad t.cu 0), 0)] else l).length ≤ l.length + 1; split <;> simp)
  by_cases h34 : t.pc = 34
  · rw [cst34 pa t zs l h34]; first | exact Nat.le_succ _ | exact Nat.zero_le _ | (show (if 0 < ld zs (ad t.cu 0) then l ++ [(t.cu, ld zs (ad t.cu 0), 0)] else l).length ≤ l.length + 1; split <;> simp)
  by_cases h35 : t.pc = 35
  · rw [cst35 pa t zs l h35]; first | exact Nat.le_succ _ | exact Nat.zero_le _ | (show (if 0 < ld zs (ad t.cu 0) then l ++ [(t.cu, ld zs (ad t.cu 0), 0)] else l).length ≤ l.length + 1; split <;> simp)
  by_cases h37 : t.pc = 37
  · rw [cst37 pa t zs l h37]; first | exact Nat.le_succ _ | exact Nat.zero_le _ | (show (if 0 < ld zs (ad t.cu 0) then l ++ [(t.cu, ld zs (ad t.cu 0), 0)] else l).length ≤ l.length + 1; split <;> simp)
  by_cases h38 : t.pc = 38
  · rw [cst38 pa t zs l h38]; first | exact Nat.le_succ _ | exact Nat.zero_le _ | (show (if 0 < ld zs (ad t.cu 0) then l ++ [(t.cu, ld zs (ad t.cu 0), 0)] else l).length ≤ l.length + 1; split <;> simp)
  by_cases h39 : t.pc = 39
  · rw [cst39 pa t zs l h39]; first | exact Nat.le_succ _ | exact Nat.zero_le _ | (show (if 0 < ld zs (ad t.cu 0) then l ++ [(t.cu, ld zs (ad t.cu 0), 0)] else l).length ≤ l.length + 1; split <;> simp)
  rw [cst0 pa t zs l (by omega)]
  exact Nat.le_succ _
theorem ss_l (pa k m : Int) (S : SS) : (ssStep pa k m S).l.length ≤ S.l.length + 1 := by
  unfold ssStep
  split
  · show (doL k m S.s S.l).length ≤ _; rw [doL_length]; exact Nat.le_succ _
  · exact cst_l _ _ _ _
theorem ss_c (pa k m : Int) (S : SS) : S.c ≤ (ssStep pa k m S).c ∧ (ssStep pa k m S).c ≤ S.c + 1 := by
  unfold ssStep
  split
  · exact ⟨Int.le_refl _, by show S.c ≤ S.c + 1; omega⟩
  · have := cst_c pa S.t S.zs S.l
    exact ⟨by show S.c ≤ S.c + _; omega, by show S.c + _ ≤ S.c + 1; omega⟩
theorem ss_dn (pa k m : Int) (S : SS) : (ssStep pa k m S).dn.length ≤ S.l.length := by
  unfold ssStep
  split
  · show (doL k m S.s S.l).length ≤ _; rw [doL_length]; exact Nat.le_refl _
  · exact Nat.zero_le _

end Go.Proofs.YtikaoikladbdpaaGreat.M2
