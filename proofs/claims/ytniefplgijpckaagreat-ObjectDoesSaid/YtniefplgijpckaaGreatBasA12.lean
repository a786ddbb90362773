/-
  Which blocks a call may touch: those of a set, and new ones; append on a row of one's own, and where the row lies behind it; lists of numbers that lie in memory. Conditions: none; no Go function is looked at here. A list that lies anywhere in its block, and may be written to behind its end as far as its room goes: cut at its front, appended to. Conditions: none; no Go function is looked at here. What texts of several stages share: how many there may be, boxes of a code and a value, what an operation of a deque tells, equality of lists. Conditions: none. Lists that came in: of bytes, of int32, of operations; each read as what its cells hold. Conditions: none.
-/
import Derived.Test.YtniefplgijpckaaGreatProg
import Derived.WalkKit
import Derived.ProofKit
import Derived.Below
import Derived.RowKit3
import Derived.WalkSmall
import Derived.OneCell
import Derived.OwnWalk
import Derived.Laws.CopyOwn
import Derived.Laws.AppendOwnNone
import Derived.Deep.RegionLaw
import Derived.Deep.QuietTactic
import Derived.Deep.Cut
import Derived.BigQuiet
import Derived.IntWalk
import Derived.Lib.Hide
import Derived.Laws.StructEq
import Derived.KernelRfl
import Derived.StillTailTactics
import Derived.Deep.RegionHeld3
import Derived.Deep.Upon
import Derived.ChangeSlices
import Derived.OpenShut
import Derived.Deep.Slices
import Derived.Deep.Fields
import Derived.SizedLaws
namespace Go.Proofs.YtniefplgijpckaaGreat
open Go.RowKit

/-- All blocks but those of F are as they were. -/
structure Wrote (F : Nat → Prop) (w w' : World) : Prop where
  os : w'.os = w.os
  tape : w'.tape = w.tape
  output : w'.output = w.output
  size : w.heap.size ≤ w'.heap.size
  block : ∀ k, k < w.heap.size → ¬ F k → w'.heap[k]? = w.heap[k]?

/-- Blocks that were there ahead, or are new. -/
def Later (F F' : Nat → Prop) (w : World) : Prop := ∀ g, F' g → F g ∨ w.heap.size ≤ g

/-- No block is one of both. -/
def Apart (F G : Nat → Prop) : Prop := ∀ g, F g → ¬ G g

theorem Apart.symm {F G : Nat → Prop} (h : Apart F G) : Apart G F := fun g a b => h g b a
theorem Later.refl (F : Nat → Prop) (w : World) : Later F F w := fun _ h => .inl h
theorem Later.trans {F F' F'' : Nat → Prop} {a b : World} (h : Later F F' a) (k : Later F' F'' b) (hs : a.heap.size ≤ b.heap.size) : Later F F'' a := fun g hg => by
  rcases k g hg with h1 | h1
  · exact h g h1
  · exact .inr (Nat.le_trans hs h1)
theorem Later.apart {F F' G : Nat → Prop} {w : World} (h : Later F F' w) (ha : Apart F G) (hG : ∀ g, G g → g < w.heap.size) : Apart F' G := fun g h1 h2 => by
  rcases h g h1 with h3 | h3
  · exact ha g h3 h2
  · have := hG g h2; omega

section
variable {F : Nat → Prop} {a b c w w' : World}
theorem Wrote.refl (F : Nat → Prop) (w : World) : Wrote F w w := ⟨rfl, rfl, rfl, Nat.le_refl _, fun _ _ _ => rfl⟩
theorem Wrote.trans (h : Wrote F a b) (k : Wrote F b c) : Wrote F a c :=
  ⟨k.os.trans h.os, k.tape.trans h.tape, k.output.trans h.output, Nat.le_trans h.size k.size, fun i hi h1 => (k.block i (Nat.lt_of_lt_of_le hi h.size) h1).trans (h.block i hi h1)⟩
theorem Wrote.step {F' : Nat → Prop} (h : Wrote F a b) (hl : Later F F' a) (k : Wrote F' b c) : Wrote F a c :=
  ⟨k.os.trans h.os, k.tape.trans h.tape, k.output.trans h.output, Nat.le_trans h.size k.size, fun i hi h1 => (k.block i (Nat.lt_of_lt_of_le hi h.size) (fun e => by
    rcases hl i e with h2 | h2
    · exact h1 h2
    · omega)).trans (h.block i hi h1)⟩
theorem Wrote.of (h : Below w.heap.size w w') (F : Nat → Prop) : Wrote F w w' := ⟨h.os, h.tape, h.output, h.size, fun k hk _ => h.block k hk⟩
theorem Wrote.below {B : Nat} (h : Wrote F w w') (hB : B ≤ w.heap.size) (hF : ∀ g, F g → B ≤ g) : Below B w w' :=
  ⟨h.os, h.tape, h.output, h.size, fun k hk => h.block k (by omega) (fun e => by have := hF k e; omega)⟩
theorem Wrote.alloc (h : Wrote F a w) (o : Obj) : Wrote F a (w.alloc o) := h.trans ⟨rfl, rfl, rfl, by simp, fun k hk _ => Below.heap_alloc _ _ _ hk⟩
theorem Wrote.drewN (h : Wrote F a w) (n : Nat) : Wrote F a (w.drewN n) := ⟨h.os, h.tape, h.output, h.size, h.block⟩
theorem Wrote.drew (h : Wrote F a w) : Wrote F a w.drew := ⟨h.os, h.tape, h.output, h.size, h.block⟩
theorem Wrote.setCell (h : Wrote F a w) {q : Addr} (hq : a.heap.size ≤ q.block ∨ F q.block) (u : Value) : Wrote F a (w.setCell q u) :=
  ⟨h.os, h.tape, h.output, by simpa [World.setCell] using h.size, fun k hk h1 => by
    rw [Below.heap_setCell _ _ _ _ (by
      rintro rfl
      rcases hq with h' | h'
      · omega
      · exact h1 h')]
    exact h.block k hk h1⟩
theorem Wrote.grown {row : Option Nat} (h : Wrote F a w) (hg : w.grownBy w' row) (hr : ∀ g, row = some g → F g ∨ a.heap.size ≤ g) : Wrote F a w' :=
  ⟨hg.os.trans h.os, hg.tape.trans h.tape, hg.output.trans h.output, Nat.le_trans h.size hg.size, fun k hk h1 => (hg.block k (Nat.lt_of_lt_of_le hk h.size) (fun e => by
    rcases hr k e.symm with h' | h'
    · exact h1 h'
    · omega)).trans (h.block k hk h1)⟩
end

theorem cellSame {W : World} {a : Addr} {u : Value} (x : Value) (h : W.cell? a = some u) : (W.setCell a x).cell? a = some x := by
  apply World.cell?_setCell_same; exact h
theorem cellOther {W : World} {a b : Addr} {u : Value} (x : Value) (hb : b.block ≠ a.block) (h : W.cell? b = some u) : (W.setCell a x).cell? b = some u :=
  (World.cell?_of_block (Below.heap_setCell _ _ _ _ hb)).trans h

/-- append on a row of one's own: the row behind it is the same one, or a new one. -/
theorem run_append_later {P : Program} (w : World) (base : Nat) (t ty e : TypeId) (i : TypeInfo) (z : Value) (size bytes : Nat) (ht : P.underlying t = some (.slice e)) (hi : P.info? e = some i) (hz : i.zero = some z)
    (hsize : i.size = size) (hby : i.bytes = bytes) (hzs : z.cells.size = size) (hsz : 0 < size)
    (v : Value) (n : Nat) (xs : List Value) (hown : w.ownsRow base e size v n xs)
    (a : Addr) (m c : Nat) (news : List Value) (hl : news.length = m * size) (hnews : ∀ j u, news[j]? = some u → w.cell? (a.add j) = some u) (h1 : ∀ u ∈ news, u.oneCell' = true)
    (h63 : n + m ≤ maxLen) (hbytes : (n + m) * bytes ≤ 140737488355328) (hbase : base ≤ w.heap.size) :
    ∃ v' w', (Builtin.append_ #[t, t] ty #[v, .slice (some a) m c]).run P w = .ok v' w' ∧ w'.ownsRow base e size v' (n + m) (xs ++ news) ∧ w.grownBy w' v.ownBlock ∧
      (∀ g, v'.ownBlock = some g → v.ownBlock = some g ∨ w.heap.size ≤ g) := by
  obtain ⟨v', w', hr, h2, h3, _⟩ := run_append_own (P := P) w base t ty e i z size bytes ht hi hz hsize hby hzs hsz v n xs hown a m c news hl hnews h1 h63 hbytes hbase
  refine ⟨v', w', hr, h2, h3, ?_⟩
  intro g hg
  rcases hown.2 with ⟨rfl, rfl⟩ | ⟨g0, cap, cur, rfl, hbg, hg0, hnc, hcm, hcs, htake⟩
  · have hx : xs = [] := List.eq_nil_of_length_eq_zero (by simpa using hown.1)
    subst hx
    obtain ⟨v2, w2, hr2, h22, _⟩ := run_append_own (P := P) w w.heap.size t ty e i z size bytes ht hi hz hsize hby hzs hsz _ 0 [] (World.ownsRow_nil w w.heap.size e size) a m c news hl hnews h1 h63 hbytes (Nat.le_refl _)
    rw [hr] at hr2
    injection hr2 with e1 e2
    subst e1
    exact .inr (h22.lt g hg).1
  · by_cases hroom : n + m ≤ cap
    · obtain ⟨w2, hr2, _⟩ := run_append_fits (P := P) w base t ty e i size ht hi hsize g0 n cap xs hown a m c news hl hnews h1 hroom
      rw [hr] at hr2
      injection hr2 with e1 e2
      subst e1
      exact .inl (by simpa [Value.ownBlock] using hg)
    · have holds : ∀ j u, xs[j]? = some u → w.cell? ((⟨g0, 0, none⟩ : Addr).add j) = some u := hown.cells (g := g0) rfl
      subst hsize
      subst hby
      have hsmall : n + m ≤ 9223372036854775807 := by simp only [maxLen] at h63; omega
      have hr2 := run_append_grow (P := P) w t ty e i z ht hi hz ⟨g0, 0, none⟩ n cap xs hown.1 holds a m c news hl hnews (by omega) (by omega) (growslice_fits (by omega) hbytes)
      rw [hr] at hr2
      injection hr2 with e1 e2
      subst e1
      simp only [Value.ownBlock, Option.some.injEq] at hg
      exact .inr (by omega)

theorem wpList_append_later {P : Program} {w : World} {ops : Array Oper} {rest : List Oper} {o : Oper} {a : Act} {Q : Exit → Act → World → Prop} (hgd : o.guard = none) (s x : Operand) (t : TypeId)
    (ho : o.op = .call { callee := .builtin .append, args := #[s, x], argTypes := #[t, t] })
    (base : Nat) (e : TypeId) (i : TypeInfo) (z : Value) (size bytes : Nat) (ht : P.underlying t = some (.slice e)) (hi : P.info? e = some i) (hz : i.zero = some z)
    (hsize : i.size = size) (hby : i.bytes = bytes) (hzs : z.cells.size = size) (hsz : 0 < size)
    (v : Value) (n : Nat) (xs : List Value) (hs : a.eval s = v) (hown : w.ownsRow base e size v n xs)
    (ad : Addr) (m c : Nat) (news : List Value) (hx : a.eval x = .slice (some ad) m c) (hl : news.length = m * size) (hnews : ∀ j u, news[j]? = some u → w.cell? (ad.add j) = some u) (h1 : ∀ u ∈ news, u.oneCell' = true)
    (h63 : n + m ≤ maxLen) (hbytes : (n + m) * bytes ≤ 140737488355328) (hbase : base ≤ w.heap.size)
    (h : ∀ v' w', w'.ownsRow base e size v' (n + m) (xs ++ news) → w.grownBy w' v.ownBlock → (∀ g, v'.ownBlock = some g → v.ownBlock = some g ∨ w.heap.size ≤ g) → wpList P ops Q rest (a.put o.dst v') w') : wpList P ops Q (o :: rest) a w := by
  refine wpList_plain hgd fun K hK => ?_
  obtain ⟨v', w', hr, h2, h3, h4⟩ := run_append_later (P := P) w base t o.type e i z size bytes ht hi hz hsize hby hzs hsz v n xs hown ad m c news hl hnews h1 h63 hbytes hbase
  unfold Oper.wp
  simp [execOp, ho, resolve, invoke, builtin, hs, hx, hr, Result.andThen]
  exact hK _ _ (h v' w' h2 h3 h4)

/-- append on a row of one's own, as one step of a region that draws its order. -/
theorem step_append_own {P : Program} (w : World) {ops : Array Oper} {o : Oper} {a : Act} {K : Act → World → Prop} {Q : Exit → Act → World → Prop} {E : Prop}
    (hg : o.guard = none) (s x : Operand) (t : TypeId) (hop : o.op = Op.call { callee := Callee.builtin Builtin.append, args := #[s, x], argTypes := #[t, t] })
    (base : Nat) (e : TypeId) (i : TypeInfo) (z : Value) (size bytes : Nat) (h1 : P.underlying t = some (.slice e)) (h2 : P.info? e = some i) (h3 : i.zero = some z) (h4 : i.size = size) (h5 : i.bytes = bytes) (h6 : z.cells.size = size) (h7 : 0 < size)
    (v : Value) (k : Nat) (xs : List Value) (hs : a.eval s = v) (hown : w.ownsRow base e size v k xs) (ad : Addr) (m c : Nat) (news : List Value) (hx : a.eval x = .slice (some ad) m c) (hn : news.length = m * size)
    (hc : ∀ j u, news[j]? = some u → w.cell? (ad.add j) = some u) (h1c : ∀ u ∈ news, u.oneCell' = true) (b1 : k + m ≤ maxLen) (b2 : (k + m) * bytes ≤ 140737488355328) (b3 : base ≤ w.heap.size)
    (hK : ∀ v' w', w'.ownsRow base e size v' (k + m) (xs ++ news) → w.grownBy w' v.ownBlock → K (a.put o.dst v') w') :
    if Region.wanted o (yielded ops a.tmps) = true then Oper.wp P o a w K Q else E := by
  have hw : Region.wanted o (yielded ops a.tmps) = true := by simp [Region.wanted, hg]
  rw [if_pos hw]
  exact wp_append_own w s x t hop base e i z size bytes h1 h2 h3 h4 h5 h6 h7 v k xs hs hown ad m c news hx hn hc h1c b1 b2 b3 fun v' w' r1 r2 _ => hK v' w' r1 r2

/-- A row of which the last elements are given up. -/
theorem own_cut {w : World} {base n k g cap : Nat} {e : TypeId} {size : Nat} {xs : List Value} (h : w.ownsRow base e size (.slice (some ⟨g, 0, none⟩) n cap) n xs) (hk : k ≤ n) : w.ownsRow base e size (.slice (some ⟨g, 0, none⟩) k cap) k (xs.take (k * size)) := by
  rcases h.2 with ⟨h', _⟩ | ⟨g', cap', cur, h', hb, hg, hle, hm, hcs, htake⟩
  · simp at h'
  · simp only [Value.slice.injEq, Option.some.injEq, Addr.mk.injEq, and_true, true_and] at h'
    obtain ⟨rfl, rfl⟩ := h'
    have hmul : k * size ≤ n * size := Nat.mul_le_mul_right _ hk
    refine ⟨by rw [List.length_take, h.1]; omega, .inr ⟨g, cap, cur, rfl, hb, hg, by omega, hm, hcs, ?_⟩⟩
    rw [← htake, List.take_take, Nat.min_eq_left hmul]

/-- A slice's cells are these numbers. -/
def Reads (k : IntKind) (w : World) (ao : Option Addr) (len : Nat) (zs : List Int) : Prop :=
  zs.length = len ∧ (0 < len → ∃ b off, ao = some ⟨b, off, none⟩ ∧ b < w.heap.size ∧ ∀ i, i < len → w.cell? ⟨b, off + i, none⟩ = some (.int k (zs.getD i 0)))

theorem Reads.keep {k : IntKind} {w w' : World} {ao : Option Addr} {len : Nat} {zs : List Int} (h : Reads k w ao len zs) (hb : Below w.heap.size w w') : Reads k w' ao len zs := by
  refine ⟨h.1, fun hp => ?_⟩
  obtain ⟨b, off, e, hl, hc⟩ := h.2 hp
  exact ⟨b, off, e, Nat.lt_of_lt_of_le hl hb.size, fun i hi => (hb.cell (p := ⟨b, off + i, none⟩) hl).trans (hc i hi)⟩

/-- A slice whose block is none of F. -/
def Off (F : Nat → Prop) (ao : Option Addr) : Prop := ∀ a, ao = some a → ¬ F a.block

theorem Wrote.cell {F : Nat → Prop} {w w' : World} (h : Wrote F w w') {p : Addr} (hp : p.block < w.heap.size) (hF : ¬ F p.block) : w'.cell? p = w.cell? p := World.cell?_of_block (w := w) (h.block p.block hp hF)

theorem Reads.off {k : IntKind} {F : Nat → Prop} {w w' : World} {ao : Option Addr} {len : Nat} {zs : List Int} (h : Reads k w ao len zs) (hF : Off F ao) (hb : Wrote F w w') : Reads k w' ao len zs := by
  refine ⟨h.1, fun hp => ?_⟩
  obtain ⟨b, off, e, hl, hc⟩ := h.2 hp
  exact ⟨b, off, e, Nat.lt_of_lt_of_le hl hb.size, fun i hi => (hb.cell (p := ⟨b, off + i, none⟩) hl (show ¬ F b from hF _ e)).trans (hc i hi)⟩

/-- A row of one's own reads as its numbers. -/
theorem reads_own {k : IntKind} {w : World} {base n : Nat} {e : TypeId} {v : Value} {zs : List Int} (h : w.ownsRow base e 1 v n (zs.map (Value.int k))) : ∃ ao cap, v = .slice ao n cap ∧ Reads k w ao n zs ∧ n ≤ cap ∧ (∀ a, ao = some a → base ≤ a.block) := by
  have hl : zs.length = n := by have := h.1; simpa using this
  have hcs := fun g hg => h.cells (g := g) hg
  rcases h.2 with ⟨rfl, rfl⟩ | ⟨g, cap, cur, rfl, hb, hg, hle, _⟩
  · exact ⟨_, _, rfl, ⟨hl, fun hp => by omega⟩, Nat.le_refl _, fun _ h => by simp at h⟩
  · refine ⟨_, _, rfl, ⟨hl, fun hp => ⟨g, 0, rfl, lt_of_block hg, fun i hi => ?_⟩⟩, hle, fun a ha => by injection ha with ha; subst ha; exact hb⟩
    have := hcs g rfl i (.int k (zs.getD i 0)) (by simp [List.getD, show i < zs.length by omega])
    simpa [Addr.add_lit] using this

theorem reads_src {k : IntKind} {w : World} {A : Option Addr} {n : Nat} {zs : List Int} (h : Reads k w A n zs) : 0 < n → ∃ ad, A = some ad ∧ ∀ j u, (zs.map (Value.int k))[j]? = some u → w.cell? (ad.add j) = some u := by
  intro hp
  obtain ⟨b, off, rfl, _, hc⟩ := h.2 hp
  refine ⟨_, rfl, fun j u hu => ?_⟩
  have hj : j < zs.length := by
    rcases Nat.lt_or_ge j zs.length with h1 | h1
    · exact h1
    · simp [h1] at hu
  rw [Addr.add_lit, hc j (by rw [← h.1]; exact hj), ← hu]
  simp [List.getD, hj]

theorem rowWhole {w : World} {base g n : Nat} {e : TypeId} {xs : List Value} (h : w.ownsRow base e 1 (.slice (some ⟨g, 0, none⟩) n n) n xs) : w.heap[g]? = some (.cells xs.toArray e (0, 0)) := by
  rcases h.2 with ⟨h', _⟩ | ⟨g', cap', cur, h', _, hg, _, _, hcs, htake⟩
  · simp at h'
  · simp only [Value.slice.injEq, Option.some.injEq, Addr.mk.injEq, and_true, true_and] at h'
    obtain ⟨rfl, rfl⟩ := h'
    rw [hg, ← htake, List.take_of_length_le (by simp; omega)]

theorem rowOf {w : World} {base g n : Nat} {e : TypeId} {xs : List Value} (hb : base ≤ g) (hn : xs.length = n) (hm : n ≤ maxLen) (h : w.heap[g]? = some (.cells xs.toArray e (0, 0))) : w.ownsRow base e 1 (.slice (some ⟨g, 0, none⟩) n n) n xs :=
  ⟨by omega, .inr ⟨g, n, xs.toArray, rfl, hb, h, Nat.le_refl _, hm, by simp; omega, by simp [← hn]⟩⟩

theorem own_keep {w w' : World} {base n : Nat} {e : TypeId} {size : Nat} {v : Value} {xs : List Value} (h : w.ownsRow base e size v n xs) (hb : ∀ g, v.ownBlock = some g → w'.heap[g]? = w.heap[g]?) : w'.ownsRow base e size v n xs := by
  refine ⟨h.1, ?_⟩
  rcases h.2 with hn | ⟨g, cap, cur, rfl, hl, hg, r⟩
  · exact .inl hn
  · exact .inr ⟨g, cap, cur, rfl, hl, (hb g rfl).trans hg, r⟩

theorem ownShape {w : World} {base : Nat} {e : TypeId} {size : Nat} {v : Value} {n : Nat} {xs : List Value} (h : w.ownsRow base e size v n xs) : ∃ ao cap, v = .slice ao n cap := by
  rcases h.2 with ⟨rfl, e⟩ | ⟨g, cap, cur, rfl, _⟩
  · exact ⟨none, 0, by rw [e]⟩
  · exact ⟨_, cap, rfl⟩

end Go.Proofs.YtniefplgijpckaaGreat
namespace Go.Proofs.YtniefplgijpckaaGreat
open Go.RowKit

theorem tape_setCells (b : Nat) : ∀ (vs : List Value) (o : Nat) (w : World), (w.setCells b o vs).tape = w.tape
  | [], _, _ => rfl
  | _ :: r, o, _ => (tape_setCells b r (o + 1) _).trans rfl
theorem size_setCells (b : Nat) : ∀ (vs : List Value) (o : Nat) (w : World), (w.setCells b o vs).heap.size = w.heap.size
  | [], _, _ => rfl
  | _ :: r, o, _ => (size_setCells b r (o + 1) _).trans (by simp [World.setCell])

theorem isSome_setCells (b : Nat) : ∀ (vs : List Value) (o : Nat) (w : World) (x : Addr), (w.cell? x).isSome = true → ((w.setCells b o vs).cell? x).isSome = true
  | [], _, _, _, h => h
  | v :: r, o, w, x, h => isSome_setCells b r (o + 1) _ x (by
    by_cases e : x = ⟨b, o, none⟩
    · subst e
      obtain ⟨u, hu⟩ := Option.isSome_iff_exists.1 h
      rw [cellSame v hu]; rfl
    · rw [World.cell?_setCell_other w _ x v (fun h => e h.symm)]; exact h)

theorem grownBy_setCells (w : World) (g o : Nat) (vs : List Value) : w.grownBy (w.setCells g o vs) (some g) :=
  ⟨World.os_setCells w g o vs, tape_setCells g vs o w, World.output_setCells w g o vs, Nat.le_of_eq (size_setCells g vs o w).symm, fun k hk hne => World.heap_setCells_other w g o vs hk (fun e => hne (by rw [e]))⟩

/-- A list of one cell each: where it lies, what it holds, what room it has. -/
def Tail (w : World) (v : Value) (xs : List Value) : Prop :=
  (v = .slice none 0 0 ∧ xs = []) ∨ ∃ g off cap, v = .slice (some ⟨g, off, none⟩) xs.length cap ∧ g < w.heap.size ∧ xs.length ≤ cap ∧ cap ≤ maxLen ∧
    (∀ j, j < xs.length → w.cell? ⟨g, off + j, none⟩ = xs[j]?) ∧ ∀ j, j < cap → (w.cell? ⟨g, off + j, none⟩).isSome = true ∧ w.frozen? ⟨g, off + j, none⟩ = false

section
variable {w w' : World} {v : Value} {xs : List Value}

theorem Tail.nothing : Tail w (.slice none 0 0) [] := .inl ⟨rfl, rfl⟩
theorem Tail.shape (h : Tail w v xs) : ∃ ao cap, v = .slice ao xs.length cap ∧ xs.length ≤ cap := by
  rcases h with ⟨rfl, rfl⟩ | ⟨g, off, cap, rfl, _, hc, _⟩
  · exact ⟨_, _, rfl, Nat.le_refl _⟩
  · exact ⟨_, _, rfl, hc⟩
theorem Tail.lt (h : Tail w v xs) {g : Nat} (hg : v.ownBlock = some g) : g < w.heap.size := by
  rcases h with ⟨rfl, _⟩ | ⟨g', off, cap, rfl, hl, _⟩
  · cases hg
  · simp only [Value.ownBlock, Option.some.injEq] at hg; omega
theorem Tail.keep (h : Tail w v xs) (hs : w.heap.size ≤ w'.heap.size) (hb : ∀ g, v.ownBlock = some g → w'.heap[g]? = w.heap[g]?) : Tail w' v xs := by
  rcases h with h | ⟨g, off, cap, rfl, hl, hc, hm, hx, hr⟩
  · exact .inl h
  · have e := hb g rfl
    refine .inr ⟨g, off, cap, rfl, Nat.lt_of_lt_of_le hl hs, hc, hm, fun j hj => (World.cell?_of_block (a := ⟨g, off + j, none⟩) e).trans (hx j hj), fun j hj => ?_⟩
    rw [World.cell?_of_block (a := ⟨g, off + j, none⟩) e, World.frozen?_of_block (a := ⟨g, off + j, none⟩) e]
    exact hr j hj
theorem Tail.drew (h : Tail w v xs) : Tail w.drew v xs := h.keep (Nat.le_refl _) (fun _ _ => rfl)
theorem Tail.alloc (h : Tail w v xs) (o : Obj) : Tail (w.alloc o) v xs := h.keep (by simp) (fun g hg => Below.heap_alloc _ _ _ (h.lt hg))
theorem Tail.other (h : Tail w v xs) {p : Addr} (hp : v.ownBlock ≠ some p.block) (u : Value) : Tail (w.setCell p u) v xs :=
  h.keep (by simp [World.setCell]) (fun g hg => Below.heap_setCell _ _ _ _ (by rintro rfl; exact hp hg))

/-- Where its first one is. -/
theorem Tail.first {x : Value} (h : Tail w v (x :: xs)) : ∃ g off cap, v = .slice (some ⟨g, off, none⟩) (xs.length + 1) cap ∧ xs.length + 1 ≤ cap ∧ w.cell? ⟨g, off, none⟩ = some x := by
  rcases h with ⟨_, h⟩ | ⟨g, off, cap, rfl, hl, hc, hm, hx, hr⟩
  · cases h
  · exact ⟨g, off, cap, rfl, hc, by simpa using hx 0 (by simp)⟩

/-- Its front cut off. -/
theorem Tail.rest {x : Value} {g off cap : Nat} (h : Tail w (.slice (some ⟨g, off, none⟩) (xs.length + 1) cap) (x :: xs)) : Tail w (.slice (if cap = 1 then some ⟨g, off, none⟩ else some ⟨g, off + 1, none⟩) xs.length (cap - 1)) xs := by
  rcases h with ⟨_, h⟩ | ⟨g', off', cap', hv, hl, hc, hm, hx, hr⟩
  · cases h
  · simp only [Value.slice.injEq, Option.some.injEq, Addr.mk.injEq, and_true] at hv
    obtain ⟨⟨rfl, rfl⟩, _, rfl⟩ := hv
    simp only [List.length_cons] at hc hx
    by_cases h1 : cap = 1
    · subst h1
      obtain rfl : xs = [] := List.eq_nil_of_length_eq_zero (by omega)
      rw [if_pos rfl]
      exact .inr ⟨g, off, 0, rfl, hl, by simp, by omega, fun j hj => by simp at hj, fun j hj => by omega⟩
    · rw [if_neg h1]
      refine .inr ⟨g, off + 1, cap - 1, rfl, hl, by omega, by omega, fun j hj => ?_, fun j hj => ?_⟩
      · have := hx (j + 1) (by omega)
        rw [show off + (j + 1) = off + 1 + j by omega] at this
        simpa using this
      · have := hr (j + 1) (by omega)
        rw [show off + (j + 1) = off + 1 + j by omega] at this
        exact this
end

section
variable {P : Program}
/-- append: in its room, or all in new memory. -/
theorem run_append_tail (w : World) (t ty e : TypeId) (i : TypeInfo) (z : Value) (bytes : Nat) (ht : P.underlying t = some (.slice e)) (hi : P.info? e = some i) (hz : i.zero = some z) (hsize : i.size = 1) (hby : i.bytes = bytes) (hzs : z.cells.size = 1)
    (v : Value) (xs : List Value) (h : Tail w v xs) (x : Value) (m : Nat) (news : List Value) (hs : Src P 1 t x m news w) (h63 : xs.length + m ≤ maxLen) (hbytes : (xs.length + m) * bytes ≤ 140737488355328) :
    ∃ v' w', (Builtin.append_ #[t, t] ty #[v, x]).run P w = .ok v' w' ∧ Tail w' v' (xs ++ news) ∧ w.grownBy w' v.ownBlock ∧ ∀ g, v'.ownBlock = some g → v.ownBlock = some g ∨ w.heap.size ≤ g := by
  have hsmall : xs.length + m ≤ 9223372036854775807 := by simp only [maxLen] at h63; omega
  have hnl := hs.newsLen
  rw [Nat.mul_one] at hnl
  subst hby
  -- the way that lays a new row
  have grow : ∀ (bs : Option Addr) (sc : Nat), v = .slice bs xs.length sc → sc < xs.length + m → (Builtin.firstCells i.size xs.length (.slice bs xs.length sc)).run P w.drew = .ok xs.toArray w.drew →
      ∃ v' w', (Builtin.append_ #[t, t] ty #[v, x]).run P w = .ok v' w' ∧ Tail w' v' (xs ++ news) ∧ w.grownBy w' v.ownBlock ∧ ∀ g, v'.ownBlock = some g → v.ownBlock = some g ∨ w.heap.size ≤ g := by
    rintro bs sc rfl hg hold
    have hs' : Src P i.size t x m news w := by rw [hsize]; exact hs
    have hrun := run_append_grow_src (P := P) w t t ty e i z ht hi hz bs xs.length sc xs hold x m news hs' hg (by omega) (growslice_fits hg hbytes)
    have hge := grownCap_ge w (xs.length + m) sc e
    have hcm := grownCap_le_maxLen w (xs.length + m) sc e h63
    refine ⟨_, _, hrun, .inr ⟨w.heap.size, 0, _, by rw [List.length_append, hnl], by simp, by rw [List.length_append, hnl]; exact hge, hcm, fun j hj => ?_, fun j hj => ⟨?_, World.frozen?_alloc_new w.drew _ _ _⟩⟩, ⟨rfl, rfl, rfl, by simp, fun k hk _ => Below.heap_alloc w.drew _ k hk⟩, fun g hg' => ?_⟩
    · have e1 : (w.drew.alloc (.cells ((xs ++ news).toArray ++ Builtin.zeroCells z.cells (grownCap w (xs.length + m) sc e - (xs.length + m))) e)).cell? ⟨w.heap.size, 0 + j, none⟩ = _ := World.cell?_alloc_new w.drew _ _ (0 + j)
      rw [e1, Nat.zero_add, Array.getElem?_append_left (by simpa using hj), List.getElem?_toArray]
    · have e1 : (w.drew.alloc (.cells ((xs ++ news).toArray ++ Builtin.zeroCells z.cells (grownCap w (xs.length + m) sc e - (xs.length + m))) e)).cell? ⟨w.heap.size, 0 + j, none⟩ = _ := World.cell?_alloc_new w.drew _ _ (0 + j)
      rw [e1, Nat.zero_add]
      have hsz : ((xs ++ news).toArray ++ Builtin.zeroCells z.cells (grownCap w (xs.length + m) sc e - (xs.length + m))).size = grownCap w (xs.length + m) sc e := by
        rw [Array.size_append, List.size_toArray, List.length_append, hnl, size_zeroCells, hzs]
        omega
      rw [Array.getElem?_eq_getElem (by rw [hsz]; exact hj)]
      rfl
    · simp only [Value.ownBlock, Option.some.injEq] at hg'
      exact .inr (by omega)
  rcases h with ⟨rfl, rfl⟩ | ⟨g, off, cap, rfl, hl, hc, hm, hx, hr⟩
  · by_cases h0 : m = 0
    · subst h0
      obtain rfl : news = [] := List.eq_nil_of_length_eq_zero hnl
      have hs' : Src P i.size t x 0 [] w := by rw [hsize]; exact hs
      exact ⟨_, _, run_append_nothing (P := P) w t t ty e i ht hi none 0 0 (Nat.le_refl _) x hs', .inl ⟨rfl, rfl⟩, ⟨rfl, rfl, rfl, Nat.le_refl _, fun _ _ _ => rfl⟩, fun g hg => .inl hg⟩
    · exact grow none 0 rfl (by simp; omega) (run_firstCells_none w.drew i.size 0 0 0)
  · by_cases hroom : xs.length + m ≤ cap
    · have hs' : Src P i.size t x m news w := by rw [hsize]; exact hs
      have hrun := run_append_room_src (P := P) w t t ty e i ht hi g off xs.length cap x m news hs' hroom
        (fun j hj => by rw [hsize, Nat.mul_one, Nat.add_assoc]; exact (hr (xs.length + j) (by omega)).1) (fun j hj => by rw [hsize, Nat.mul_one, Nat.add_assoc]; exact (hr (xs.length + j) (by omega)).2)
      rw [hsize, Nat.mul_one] at hrun
      have hsome : ∀ j, j < news.length → (w.cell? ⟨g, off + xs.length + j, none⟩).isSome = true := fun j hj => by rw [Nat.add_assoc]; exact (hr (xs.length + j) (by omega)).1
      refine ⟨_, _, hrun, .inr ⟨g, off, cap, by rw [List.length_append, hnl], by rw [size_setCells]; exact hl, by rw [List.length_append, hnl]; exact hroom, hm, fun j hj => ?_, fun j hj => ⟨isSome_setCells g news _ _ _ (hr j hj).1, (World.frozen?_setCells g _ _ _ _).trans (hr j hj).2⟩⟩, grownBy_setCells w g _ news, fun g' hg' => .inl hg'⟩
      rw [List.length_append] at hj
      by_cases hj' : j < xs.length
      · rw [World.cell?_setCells_out g _ _ _ _ (fun _ _ => Or.inl (by show off + j < off + xs.length; omega)), hx j hj', List.getElem?_append_left hj']
      · have := World.cell?_setCells_in g news (off + xs.length) w hsome (j - xs.length) (by omega)
        rw [show off + xs.length + (j - xs.length) = off + j by omega] at this
        rw [this, List.getElem?_append_right (by omega), List.getElem?_eq_getElem (by omega)]
    · refine grow _ cap rfl (by omega) ?_
      have := run_firstCells_some (P := P) w.drew i.size xs.length ⟨g, off, none⟩ xs.length cap xs (by rw [hsize, Nat.mul_one]) (fun j u hu => ?_)
      · exact this
      · have hj : j < xs.length := by
          rcases Nat.lt_or_ge j xs.length with h1 | h1
          · exact h1
          · rw [List.getElem?_eq_none h1] at hu; cases hu
        rw [Addr.add_lit]
        exact (hx j hj).trans hu

/-- append, as one step of a region that draws its order. -/
theorem step_append_tail (w : World) {ops : Array Oper} {o : Oper} {a : Act} {K : Act → World → Prop} {Q : Exit → Act → World → Prop} {E : Prop}
    (hg : o.guard = none) (s x : Operand) (t : TypeId) (hop : o.op = Op.call { callee := Callee.builtin Builtin.append, args := #[s, x], argTypes := #[t, t] })
    (e : TypeId) (i : TypeInfo) (z : Value) (bytes : Nat) (ht : P.underlying t = some (.slice e)) (hi : P.info? e = some i) (hz : i.zero = some z) (hsize : i.size = 1) (hby : i.bytes = bytes) (hzs : z.cells.size = 1)
    (v : Value) (xs : List Value) (hv : a.eval s = v) (h : Tail w v xs) (y : Value) (m : Nat) (news : List Value) (hy : a.eval x = y) (hs : Src P 1 t y m news w) (h63 : xs.length + m ≤ maxLen) (hbytes : (xs.length + m) * bytes ≤ 140737488355328)
    (hK : ∀ v' w', Tail w' v' (xs ++ news) → w.grownBy w' v.ownBlock → (∀ g, v'.ownBlock = some g → v.ownBlock = some g ∨ w.heap.size ≤ g) → K (a.put o.dst v') w') :
    if Region.wanted o (yielded ops a.tmps) = true then Oper.wp P o a w K Q else E := by
  have hw : Region.wanted o (yielded ops a.tmps) = true := by simp [Region.wanted, hg]
  rw [if_pos hw]
  obtain ⟨v', w', hr, h2, h3, h4⟩ := run_append_tail (P := P) w t o.type e i z bytes ht hi hz hsize hby hzs v xs h y m news hs h63 hbytes
  unfold Oper.wp
  simp [execOp, hop, resolve, invoke, builtin, hv, hy, hr, Result.andThen]
  exact hK _ _ h2 h3 h4

/-- append, at the operation. -/
theorem wpList_append_tail (w : World) {ops : Array Oper} {rest : List Oper} {o : Oper} {a : Act} {Q : Exit → Act → World → Prop} (hgd : o.guard = none) (s x : Operand) (t : TypeId) (hop : o.op = Op.call { callee := Callee.builtin Builtin.append, args := #[s, x], argTypes := #[t, t] })
    (e : TypeId) (i : TypeInfo) (z : Value) (bytes : Nat) (ht : P.underlying t = some (.slice e)) (hi : P.info? e = some i) (hz : i.zero = some z) (hsize : i.size = 1) (hby : i.bytes = bytes) (hzs : z.cells.size = 1)
    (v : Value) (xs : List Value) (hv : a.eval s = v) (h : Tail w v xs) (y : Value) (m : Nat) (news : List Value) (hy : a.eval x = y) (hs : Src P 1 t y m news w) (h63 : xs.length + m ≤ maxLen) (hbytes : (xs.length + m) * bytes ≤ 140737488355328)
    (hK : ∀ v' w', Tail w' v' (xs ++ news) → w.grownBy w' v.ownBlock → (∀ g, v'.ownBlock = some g → v.ownBlock = some g ∨ w.heap.size ≤ g) → wpList P ops Q rest (a.put o.dst v') w') : wpList P ops Q (o :: rest) a w := by
  refine wpList_plain hgd fun K hK' => ?_
  obtain ⟨v', w', hr, h2, h3, h4⟩ := run_append_tail (P := P) w t o.type e i z bytes ht hi hz hsize hby hzs v xs h y m news hs h63 hbytes
  unfold Oper.wp
  simp [execOp, hop, resolve, invoke, builtin, hv, hy, hr, Result.andThen]
  exact hK' _ _ (hK v' w' h2 h3 h4)
end

end Go.Proofs.YtniefplgijpckaaGreat
namespace Go.Proofs.YtniefplgijpckaaGreat
open Go.RowKit

theorem infoI32 : (Tryz.prog.info? 21).map (fun i => (i.zero, i.size, i.bytes)) = some (some (.int .i32 0), 1, 4) := by kernel_rfl
theorem sizeI32 : (Tryz.prog.info? 21).map (·.size) = some 1 := by kernel_rfl

/-- How many there may be. -/
def mostOf (n : Int) : Int := if n < 0 then 0 else if 1000 < n then 1000 else n
theorem mostOf_in (n : Int) : 0 ≤ mostOf n ∧ mostOf n ≤ 1000 := by unfold mostOf; split <;> (try split) <;> omega
theorem mostOf_self (n : Int) (h0 : 0 ≤ n) (h1 : n ≤ 1000) : mostOf n = n := by unfold mostOf; rw [if_neg (by omega), if_neg (by omega)]

/-- A code and a value in a block of their own. -/
def RBox (w : World) (g : Nat) (c x : Int) : Prop := w.heap[g]? = some (.cells #[.int .u8 c, .int .i32 x] 53 (0, 0))
section
variable {w : World} {g : Nat} {c x : Int}
theorem RBox.c0 (h : RBox w g c x) : w.cell? ⟨g, 0, none⟩ = some (.int .u8 c) := by unfold RBox at h; simp [World.cell?, h]
theorem RBox.c1 (h : RBox w g c x) : w.cell? ⟨g, 1, none⟩ = some (.int .i32 x) := by unfold RBox at h; simp [World.cell?, h]
theorem RBox.f (h : RBox w g c x) (j : Nat) : w.frozen? ⟨g, j, none⟩ = false := by unfold RBox at h; simp [World.frozen?, h]
theorem RBox.lt (h : RBox w g c x) : g < w.heap.size := lt_of_block h
theorem RBox.set2 (h : RBox w g c x) (c' x' : Int) : RBox ((w.setCell ⟨g, 0, none⟩ (.int .u8 c')).setCell ⟨g, 1, none⟩ (.int .i32 x')) g c' x' := by
  unfold RBox at h ⊢
  rw [heap_setCell_same _ g 1 _ _ _ (heap_setCell_same w g 0 _ _ _ h)]
  rfl
end

section
variable {F : Nat → Prop} {a b : World}
theorem RBox.keep {g : Nat} {c x : Int} (h : RBox a g c x) (hb : Below a.heap.size a b) : RBox b g c x := (hb.block g h.lt).trans h
theorem RBox.off {g : Nat} {c x : Int} (h : RBox a g c x) (hn : ¬ F g) (hw : Wrote F a b) : RBox b g c x := (hw.block g h.lt hn).trans h
theorem RBox.new (w : World) (c x : Int) : RBox (w.alloc (.cells #[.int .u8 c, .int .i32 x] 53)) w.heap.size c x := heap_alloc_new w _

end

theorem Later.not {w : World} {F F' : Nat → Prop} {g : Nat} (l : Later F F' w) (hn : ¬ F g) (hg : g < w.heap.size) : ¬ F' g := fun e => by
  rcases l g e with h | h
  · exact hn h
  · omega

/-- What an operation makes of the items. -/
def dqL (most : Int) (zs : List Int) (k x : Int) : List Int :=
  if k = 1 then (if (zs.length : Int) < most then x :: zs else zs) else if k = 2 then (if (zs.length : Int) < most then zs ++ [x] else zs) else if k = 3 then zs.tail else if k = 4 then zs.dropLast else zs
/-- What it is told: a code. -/
def dqC (most : Int) (zs : List Int) (k : Int) : Int :=
  if k = 1 ∨ k = 2 then (if (zs.length : Int) < most then 1 else 3) else if k = 3 ∨ k = 4 then (if zs = [] then 4 else 2) else 5
/-- What it is told: a value. -/
def dqV (zs : List Int) (k : Int) : Int := if k = 3 then zs.headD 0 else if k = 4 then zs.getLastD 0 else 0

/-- A struct equals itself. -/
theorem eqSelf (a b : Int) (w : World) : (Op.equalIn 10000 53 (.agg #[.int .u8 a, .int .i32 b]) (.agg #[.int .u8 a, .int .i32 b])).run Tryz.prog w = .ok true w := by
  have hS : Tryz.prog.underlying 53 = some (.struct (Tryz.prog.fieldsOf 53)) := by kernel_rfl
  have hp : Tryz.prog.stoodInHeld 53 = false := by kernel_rfl
  rw [show (10000 : Nat) = 9998 + 1 + 1 from rfl, run_equalIn_agg w (9998 + 1) 53 _ _ hS hp]
  have u5 := Tryz.underlying5
  have u21 := Tryz.underlying21
  have a5 := Tryz.isAgg5
  have z5 := Tryz.sizeOf5
  have a21 := Tryz.isAgg21
  have z21 := Tryz.sizeOf21
  simp only [Program.fieldsOf, Tryz.underlying53]
  go_simp

set_option maxHeartbeats 1600000 in
theorem sameEq (w : World) (a b : Option Addr) (n c d : Nat) (zs : List Int) (ha : Reads .i32 w a n zs) (hb : Reads .i32 w b n zs) (hl : n ≤ 1000) :
    Calls Tryz.prog 19 #[.slice a n c, .slice b n d] w fun e w' => e = .returned (.bool true) ∧ Below w.heap.size w w' := by
  have HA := Lib.hid ha
  have HB := Lib.hid hb
  clear ha hb
  go_enter Tryz.func19, Tryz.ntmps19
  go_wp2
  go_loopw [5] (fun i wr => ∃ k : Nat, k ≤ n ∧ i = .int .i64 k ∧ Below w.heap.size w wr) (fun i _ => n - (intOf i).toNat)
  case atStart => exact ⟨0, Nat.zero_le _, rfl, Below.refl _ _⟩
  case round =>
    obtain ⟨k, hk, rfl, hbe⟩ := hrel
    have HE := Lib.hid hbe
    by_cases hlt : k < n
    · obtain ⟨b1, o1, rfl, l1, h1⟩ := (HA.out.keep hbe).2 (by omega)
      obtain ⟨b2, o2, rfl, l2, h2⟩ := (HB.out.keep hbe).2 (by omega)
      have c1 := h1 k hlt
      have c2 := h2 k hlt
      have i0 : (k : Int) < n := by omega
      clear h1 h2 hbe
      generalize zs.getD k 0 = e1 at *
      go_wp2
      go_quiet (fail)
      go_wp2
      go_roundw
      case rel => exact ⟨k + 1, by omega, by go_num, below_drewN HE.out _⟩
      case measure => simp [intOf]; omega
    · clear hbe
      go_wp2
      go_ret
      exact ⟨rfl, HE.out⟩

end Go.Proofs.YtniefplgijpckaaGreat
namespace Go.Proofs.YtniefplgijpckaaGreat
open Go.RowKit Go.ChangeShapes Go.WideShapes Go.Deep

/-- A slice's elements are these operations. -/
def OpsAt (w : World) (ao : Option Addr) (len : Nat) (os : List (Int × Int)) : Prop :=
  os.length = len ∧ (0 < len → ∃ b off, ao = some ⟨b, off, none⟩ ∧ b < w.heap.size ∧ ∀ i, i < len → w.cell? ⟨b, off + i * 2, none⟩ = some (.int .u8 (os.getD i (0, 0)).1) ∧ w.cell? ⟨b, off + i * 2 + 1, none⟩ = some (.int .i32 (os.getD i (0, 0)).2))

theorem OpsAt.keep {w w' : World} {ao : Option Addr} {len : Nat} {os : List (Int × Int)} (h : OpsAt w ao len os) (hb : Below w.heap.size w w') : OpsAt w' ao len os := by
  refine ⟨h.1, fun hp => ?_⟩
  obtain ⟨b, off, e, hl, hc⟩ := h.2 hp
  exact ⟨b, off, e, Nat.lt_of_lt_of_le hl hb.size, fun i hi => ⟨(hb.cell (p := ⟨b, _, none⟩) hl).trans (hc i hi).1, (hb.cell (p := ⟨b, _, none⟩) hl).trans (hc i hi).2⟩⟩

theorem OpsAt.off {F : Nat → Prop} {w w' : World} {ao : Option Addr} {len : Nat} {os : List (Int × Int)} (h : OpsAt w ao len os) (hF : Off F ao) (hb : Wrote F w w') : OpsAt w' ao len os := by
  refine ⟨h.1, fun hp => ?_⟩
  obtain ⟨b, off, e, hl, hc⟩ := h.2 hp
  have hn : ¬ F b := hF _ e
  exact ⟨b, off, e, Nat.lt_of_lt_of_le hl hb.size, fun i hi => ⟨(hb.cell (p := ⟨b, _, none⟩) hl hn).trans (hc i hi).1, (hb.cell (p := ⟨b, _, none⟩) hl hn).trans (hc i hi).2⟩⟩

/-- An operation's numbers are of their kinds. -/
def OpOk (o : Int × Int) : Prop := (0 ≤ o.1 ∧ o.1 ≤ 255) ∧ (-2147483648 ≤ o.2 ∧ o.2 ≤ 2147483647)

def ArgBytes (w : World) (ao : Option Addr) (len cap : Nat) (zs : List Int) : Prop := Reads .u8 w ao len zs ∧ len ≤ cap ∧ len ≤ maxLen ∧ ∀ z ∈ zs, 0 ≤ z ∧ z ≤ 255
def ArgInt32s (w : World) (ao : Option Addr) (len cap : Nat) (zs : List Int) : Prop := Reads .i32 w ao len zs ∧ len ≤ cap ∧ len ≤ maxLen
def ArgOps (w : World) (ao : Option Addr) (len cap : Nat) (os : List (Int × Int)) : Prop := OpsAt w ao len os ∧ len ≤ cap ∧ len ≤ maxLen ∧ ∀ o ∈ os, OpOk o

theorem openNums {k : IntKind} {t e : TypeId} {H : Type} {enc : TypeId × Value → H} {W : World} {a : Option Addr} {len cap : Nat} {d : DataW H} {ps : List MemPlace} (ht : Tryz.prog.underlying t = some (.slice e)) (he : Tryz.prog.underlying e = some (.int k)) (hc : Tryz.prog.cellsOf e = 1)
    (h : DataW.Trod enc Tryz.prog W 0 (fun _ => true) true t (.slice a len cap) d ps) : ∃ zs, Reads k W a len zs ∧ len ≤ cap ∧ len ≤ maxLen ∧ ∀ z ∈ zs, (Lit.int k z).wf = true := by
  obtain ⟨fuel, hf⟩ := h
  rcases open_ints ht he hc hf with ⟨hcs, _⟩ | ⟨x, l, c, zs, hcs, _, hl, hm, hz, _, hcell, hwz⟩
  · simp [Value.cells] at hcs
    obtain ⟨rfl, rfl, rfl⟩ := hcs
    exact ⟨[], ⟨rfl, fun h => by omega⟩, by omega, by simp [maxLen], by simp⟩
  · simp [Value.cells] at hcs
    obtain ⟨rfl, rfl, rfl⟩ := hcs
    simp only [if_true] at hz
    refine ⟨zs.take len, ⟨by simp; omega, fun hp => ?_⟩, by omega, by omega, fun n hn => hwz n (List.mem_of_mem_take hn)⟩
    obtain ⟨b, off, spot⟩ := x
    have hspot : spot = none := by simpa [Addr.add] using World.cell?_spot (hcell 0 (by omega))
    subst hspot
    refine ⟨b, off, rfl, World.block_lt_of_cell? W _ (hcell 0 (by omega)), fun i hi => ?_⟩
    have := hcell i (by omega)
    rw [Addr.add_lit] at this
    rw [this]
    simp [List.getD, hi]

theorem openBytes {H : Type} {enc : TypeId × Value → H} {W : World} {a : Option Addr} {len cap : Nat} {d : DataW H} {ps : List MemPlace}
    (h : DataW.Trod enc Tryz.prog W 0 (fun _ => true) true 23 (.slice a len cap) d ps) : ∃ zs, ArgBytes W a len cap zs := by
  obtain ⟨zs, h1, h2, h3, h4⟩ := openNums Tryz.underlying23 Tryz.underlying5 (by kernel_rfl) h
  exact ⟨zs, h1, h2, h3, fun z hz => bounds_u8 (h4 z hz)⟩

theorem openInt32s {H : Type} {enc : TypeId × Value → H} {W : World} {a : Option Addr} {len cap : Nat} {d : DataW H} {ps : List MemPlace}
    (h : DataW.Trod enc Tryz.prog W 0 (fun _ => true) true 32 (.slice a len cap) d ps) : ∃ zs, ArgInt32s W a len cap zs := by
  obtain ⟨zs, h1, h2, h3, _⟩ := openNums Tryz.underlying32 Tryz.underlying21 (by kernel_rfl) h
  exact ⟨zs, h1, h2, h3⟩

theorem opFields : ∃ f0 f1 : Field, Tryz.prog.underlying 49 = some (.struct #[f0, f1]) ∧ f0.type = 5 ∧ f0.offset = 0 ∧ f1.type = 21 ∧ f1.offset = 1 :=
  ⟨_, _, Tryz.underlying49, rfl, rfl, rfl, rfl⟩

theorem bytes_u8 : Tryz.prog.bytesOf 5 = 1 := by kernel_rfl
theorem bytes_i32 : Tryz.prog.bytesOf 21 = 4 := by kernel_rfl
theorem bytes_op : Tryz.prog.bytesOf 49 = 8 := by kernel_rfl
theorem cells_u8 : Tryz.prog.cellsOf 5 = 1 := by kernel_rfl
theorem cells_i32 : Tryz.prog.cellsOf 21 = 1 := by kernel_rfl
theorem cells_op : Tryz.prog.cellsOf 49 = 2 := by kernel_rfl

theorem opCells {H : Type} {enc : TypeId × Value → H} {W : World} {fuel : Nat} {cs : List Value} {y : DataW H × List MemPlace} (hl : cs.length = 2)
    (h : DataW.trod enc Tryz.prog W 0 (fun _ => true) true fuel 49 cs = some y) :
    ∃ k v : Int, cs = [.int .u8 k, .int .i32 v] ∧ (0 ≤ k ∧ k ≤ 255) ∧ (-2147483648 ≤ v ∧ v ≤ 2147483647) := by
  obtain ⟨f0, f1, hs, t0, o0, t1, o1⟩ := opFields
  match cs, hl with
  | [c0, c1], _ =>
    obtain ⟨xs, n, _, _, _, hx, hf⟩ := DataW.trod_struct hs h
    match xs, hx with
    | [y0, y1], _ =>
      have g0 := hf 0 f0 rfl
      have g1 := hf 1 f1 rfl
      rw [o0, t0, cells_u8] at g0
      rw [o1, t1, cells_i32] at g1
      simp only [List.drop_zero, List.drop_succ_cons, List.take_succ_cons, List.take_zero] at g0 g1
      obtain ⟨m0, e0, _, w0⟩ := DataW.trod_int Tryz.underlying5 g0
      obtain ⟨m1, e1, _, w1⟩ := DataW.trod_int Tryz.underlying21 g1
      simp only [List.cons.injEq, and_true] at e0 e1
      subst e0 e1
      exact ⟨m0, m1, rfl, bounds_u8 w0, bounds_i32 w1⟩

/-- A list of elements of as many cells each. -/
theorem openRows {α : Type} (cells : α → List Value) (dflt : α) (size : Nat) (good : α → Prop) (hcells : ∀ x, (cells x).length = size) (h0 : 0 < size) {t e : TypeId} {H : Type} {enc : TypeId × Value → H} {W : World} {a : Option Addr} {len cap : Nat} {d : DataW H} {ps : List MemPlace} (ht : Tryz.prog.underlying t = some (.slice e)) (hc : Tryz.prog.cellsOf e = size)
    (hone : ∀ {fuel : Nat} {cs : List Value} {y : DataW H × List MemPlace}, cs.length = size → DataW.trod enc Tryz.prog W 0 (fun _ => true) true fuel e cs = some y → ∃ x, cs = cells x ∧ good x)
    (h : DataW.Trod enc Tryz.prog W 0 (fun _ => true) true t (.slice a len cap) d ps) :
    ∃ xs : List α, xs.length = len ∧ (0 < len → ∃ b off, a = some ⟨b, off, none⟩ ∧ b < W.heap.size ∧ ∀ i, i < len → ∀ j, j < size → W.cell? ⟨b, off + i * size + j, none⟩ = (cells (xs.getD i dflt))[j]?) ∧ len ≤ cap ∧ len ≤ maxLen ∧ ∀ x ∈ xs, good x := by
  obtain ⟨fuel, hf⟩ := h
  rcases open_slice ht hf with ⟨hcs, _⟩ | ⟨x, l, c, m, n, D, Pl, hcs, _, hl, hm, hmm, _, hi⟩
  · simp [Value.cells] at hcs
    obtain ⟨rfl, rfl, rfl⟩ := hcs
    exact ⟨[], rfl, fun h => by omega, by omega, by simp [maxLen], by simp⟩
  · simp [Value.cells] at hcs
    obtain ⟨rfl, rfl, rfl⟩ := hcs
    simp only [if_true] at hmm
    rw [hc] at hi
    have each : ∀ i, i < len → ∃ y : α, good y ∧ ∀ j, j < size → W.cell? ((x.add (i * size)).add j) = (cells y)[j]? := by
      intro i hil
      obtain ⟨cs', hcl', ht'⟩ := hi i (by omega)
      obtain ⟨_, hcl, hat⟩ := World.cells?_some hcl'
      obtain ⟨y, rfl, g⟩ := hone hcl ht'
      exact ⟨y, g, hat⟩
    have pick : ∃ f : Nat → α, ∀ i, i < len → good (f i) ∧ ∀ j, j < size → W.cell? ((x.add (i * size)).add j) = (cells (f i))[j]? :=
      ⟨fun i => if h : i < len then Classical.choose (each i h) else dflt, fun i hil => by simp only [dif_pos hil]; exact Classical.choose_spec (each i hil)⟩
    obtain ⟨f, hpick⟩ := pick
    refine ⟨(List.range len).map f, by simp, fun hp => ?_, by omega, by omega, fun y hy => ?_⟩
    · obtain ⟨b, off, spot⟩ := x
      have hc0 : ∃ v, W.cell? (((⟨b, off, spot⟩ : Addr).add (0 * size)).add 0) = some v := by
        rw [(hpick 0 hp).2 0 h0]
        exact ⟨_, List.getElem?_eq_getElem (by rw [hcells]; exact h0)⟩
      obtain ⟨v0, hv0⟩ := hc0
      have hspot : spot = none := by simpa [Addr.add] using World.cell?_spot hv0
      subst hspot
      refine ⟨b, off, rfl, by simpa [Addr.add] using World.block_lt_of_cell? W _ hv0, fun i hil j hj => ?_⟩
      have := (hpick i hil).2 j hj
      simp only [Addr.add_lit] at this
      rw [this]
      simp [List.getD, hil]
    · simp only [List.mem_map, List.mem_range] at hy
      obtain ⟨i, hil, rfl⟩ := hy
      exact (hpick i hil).1

theorem openOps {H : Type} {enc : TypeId × Value → H} {W : World} {a : Option Addr} {len cap : Nat} {d : DataW H} {ps : List MemPlace}
    (h : DataW.Trod enc Tryz.prog W 0 (fun _ => true) true 36 (.slice a len cap) d ps) : ∃ os, ArgOps W a len cap os := by
  obtain ⟨os, h1, h2, h3, h4, h5⟩ := openRows (fun o : Int × Int => [.int .u8 o.1, .int .i32 o.2]) (0, 0) 2 OpOk (fun _ => rfl) (by omega) Tryz.underlying36 cells_op
    (fun hl ht => by obtain ⟨k, v, e, h1, h2⟩ := opCells hl ht; exact ⟨(k, v), e, h1, h2⟩) h
  refine ⟨os, ⟨h1, fun hp => ?_⟩, h3, h4, h5⟩
  obtain ⟨b, off, e, hb, hc⟩ := h2 hp
  exact ⟨b, off, e, hb, fun i hi => ⟨hc i hi 0 (by omega), hc i hi 1 (by omega)⟩⟩

/-- How many elements a slice's datum has. -/
theorem openShape {t e : TypeId} {H : Type} {enc : TypeId × Value → H} {W : World} {a : Option Addr} {len cap : Nat} {d : DataW H} {ps : List MemPlace} (ht : Tryz.prog.underlying t = some (.slice e))
    (h : DataW.Trod enc Tryz.prog W 0 (fun _ => true) true t (.slice a len cap) d ps) : len = 0 ∨ ∃ el sp, d = .slice el sp ∧ el.length = len := by
  obtain ⟨fuel, hf⟩ := h
  rcases open_slice ht hf with ⟨hcs, _⟩ | ⟨x, l, c, m, n, D, Pl, hcs, _, _, _, _, hx, _⟩
  · simp [Value.cells] at hcs
    exact .inl hcs.2.1
  · simp [Value.cells] at hcs
    obtain ⟨rfl, rfl, rfl⟩ := hcs
    simp only [Prod.mk.injEq] at hx
    exact .inr ⟨_, _, hx.1, by simp⟩

theorem reachLen {H : Type} {ts : List TypeId} {ds : List (DataW H)} (hsz : (DataW.weightsEach Tryz.prog ts ds).all (· ≤ reachBytes) = true) {j : Nat} {t e : TypeId} {d : DataW H} {len : Nat} (ht : ts[j]? = some t) (hd : ds[j]? = some d) (hu : Tryz.prog.underlying t = some (.slice e)) (hb : 1 ≤ Tryz.prog.bytesOf e)
    (h : len = 0 ∨ ∃ el sp, d = .slice el sp ∧ el.length = len) : len ≤ 140737488351232 := by
  rcases h with rfl | ⟨el, sp, rfl, rfl⟩
  · omega
  · have h1 := sized_slice hsz ht hd hu
    have h2 : el.length + sp.length ≤ (el.length + sp.length) * Tryz.prog.bytesOf e := Nat.le_mul_of_pos_right _ hb
    have h3 : reachBytes < 2 ^ 47 := reachBytes_lt
    simp only [reachBytes] at h1
    omega

end Go.Proofs.YtniefplgijpckaaGreat
