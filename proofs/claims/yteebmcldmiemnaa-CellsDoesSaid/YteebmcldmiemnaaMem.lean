/-
  What a memory of package cells is in the model's world, what its calls may touch, and the plain functions that say what they answer. Conditions: none; no Go function is looked at here.
-/
import Derived.Test.YteebmcldmiemnaaOwn
namespace Go.Proofs.Yteebmcldmiemnaa
open Go.RowKit

/-- A memory at block p whose list is the value v: SIZE, the cells' numbers, the steps. -/
structure Mem (w : World) (B p : Nat) (v : Value) (size : Int) (zs : List Int) (st : Int) : Prop where
  block : w.heap[p]? = some (.cells #[.int .i64 size, v, .int .i64 st] 56 (0, 0))
  low : B ≤ p
  own : w.ownsRow B 2 1 v zs.length (zs.map (Value.int .i64))
  s0 : 0 ≤ size
  s1 : size ≤ 1000
  room : (zs.length : Int) ≤ size

/-- All blocks but p and the row of v are as they were. -/
structure Wrote (p : Nat) (v : Value) (w w' : World) : Prop where
  os : w'.os = w.os
  tape : w'.tape = w.tape
  output : w'.output = w.output
  size : w.heap.size ≤ w'.heap.size
  block : ∀ k, k < w.heap.size → k ≠ p → v.ownBlock ≠ some k → w'.heap[k]? = w.heap[k]?

/-- A row is the one that was, or a new one. -/
def Later (v v' : Value) (w : World) : Prop := ∀ g, v'.ownBlock = some g → v.ownBlock = some g ∨ w.heap.size ≤ g

theorem Later.refl (v : Value) (w : World) : Later v v w := fun _ h => .inl h

/-- What a call on a memory leaves. -/
def Did (B p : Nat) (v : Value) (size : Int) (zs : List Int) (st : Int) (w w' : World) : Prop := ∃ v', Mem w' B p v' size zs st ∧ Wrote p v w w' ∧ Later v v' w

theorem Wrote.refl (p : Nat) (v : Value) (w : World) : Wrote p v w w := ⟨rfl, rfl, rfl, Nat.le_refl _, fun _ _ _ _ => rfl⟩
theorem Wrote.trans {p : Nat} {v : Value} {a b c : World} (h : Wrote p v a b) (k : Wrote p v b c) : Wrote p v a c :=
  ⟨k.os.trans h.os, k.tape.trans h.tape, k.output.trans h.output, Nat.le_trans h.size k.size, fun i hi h1 h2 => (k.block i (Nat.lt_of_lt_of_le hi h.size) h1 h2).trans (h.block i hi h1 h2)⟩
theorem Wrote.alloc {p : Nat} {v : Value} {a w : World} (h : Wrote p v a w) (o : Obj) : Wrote p v a (w.alloc o) :=
  h.trans ⟨rfl, rfl, rfl, by simp, fun k hk _ _ => Below.heap_alloc _ _ _ hk⟩
theorem Wrote.drewN {p : Nat} {v : Value} {a w : World} (h : Wrote p v a w) (n : Nat) : Wrote p v a (w.drewN n) := ⟨h.os, h.tape, h.output, h.size, h.block⟩
theorem Wrote.drew {p : Nat} {v : Value} {a w : World} (h : Wrote p v a w) : Wrote p v a w.drew := ⟨h.os, h.tape, h.output, h.size, h.block⟩
theorem Wrote.setCell {p : Nat} {v : Value} {a w : World} (h : Wrote p v a w) {q : Addr} (hq : a.heap.size ≤ q.block ∨ q.block = p ∨ v.ownBlock = some q.block) (u : Value) : Wrote p v a (w.setCell q u) :=
  ⟨h.os, h.tape, h.output, by simpa [World.setCell] using h.size, fun k hk h1 h2 => by
    rw [Below.heap_setCell _ _ _ _ (by rintro rfl; rcases hq with h' | h' | h'; · omega
                                       · exact h1 h'
                                       · exact h2 h')]
    exact h.block k hk h1 h2⟩
theorem Wrote.grown {p : Nat} {v : Value} {a w w' : World} (h : Wrote p v a w) (hg : w.grownBy w' v.ownBlock) : Wrote p v a w' :=
  h.trans ⟨hg.os, hg.tape, hg.output, hg.size, fun k hk _ h2 => hg.block k hk (fun e => h2 e.symm)⟩

section
variable {w : World} {B p : Nat} {v : Value} {size : Int} {zs : List Int} {st : Int}

theorem Mem.lt (h : Mem w B p v size zs st) : p < w.heap.size := lt_of_block h.block
theorem Mem.base (h : Mem w B p v size zs st) : B ≤ w.heap.size := Nat.le_of_lt (Nat.lt_of_le_of_lt h.low h.lt)
theorem Mem.c0 (h : Mem w B p v size zs st) : w.cell? ⟨p, 0, none⟩ = some (.int .i64 size) := by simp [World.cell?, h.block]
theorem Mem.c1 (h : Mem w B p v size zs st) : w.cell? ⟨p, 1, none⟩ = some v := by simp [World.cell?, h.block]
theorem Mem.c2 (h : Mem w B p v size zs st) : w.cell? ⟨p, 2, none⟩ = some (.int .i64 st) := by simp [World.cell?, h.block]
theorem Mem.f (h : Mem w B p v size zs st) (j : Nat) : w.frozen? ⟨p, j, none⟩ = false := by simp [World.frozen?, h.block]

theorem Mem.ne (h : Mem w B p v size zs st) : v.ownBlock ≠ some p := by
  intro e
  rcases h.own.2 with ⟨rfl, _⟩ | ⟨g, cap, cur, rfl, _, hg, _⟩
  · simp [Value.ownBlock] at e
  · simp only [Value.ownBlock, Option.some.injEq] at e
    subst e
    have hb := h.block
    rw [hg] at hb
    simp at hb

theorem Mem.shape (h : Mem w B p v size zs st) : ∃ ao cap, v = .slice ao zs.length cap := by
  rcases h.own.2 with ⟨rfl, e⟩ | ⟨g, cap, cur, rfl, _⟩
  · exact ⟨none, 0, by rw [e]⟩
  · exact ⟨_, cap, rfl⟩

theorem Mem.row (h : Mem w B p v size zs st) (hz : 0 < zs.length) : ∃ g cap, v = .slice (some ⟨g, 0, none⟩) zs.length cap ∧ g ≠ p ∧ B ≤ g ∧ g < w.heap.size := by
  have hn := h.ne
  rcases h.own.2 with ⟨rfl, e⟩ | ⟨g, cap, cur, rfl, hb, hg, _⟩
  · omega
  · exact ⟨g, cap, rfl, fun e => hn (by simp [Value.ownBlock, e]), hb, lt_of_block hg⟩

/-- A world in which p's block and the row's block are as they were. -/
theorem Mem.keep {w' : World} (h : Mem w B p v size zs st) (hp : w'.heap[p]? = w.heap[p]?) (hv : ∀ g, v.ownBlock = some g → w'.heap[g]? = w.heap[g]?) : Mem w' B p v size zs st := by
  refine ⟨hp.trans h.block, h.low, ⟨h.own.1, ?_⟩, h.s0, h.s1, h.room⟩
  rcases h.own.2 with hn | ⟨g, cap, cur, rfl, hb, hg, r⟩
  · exact .inl hn
  · exact .inr ⟨g, cap, cur, rfl, hb, (hv g rfl).trans hg, r⟩

theorem Mem.rowLt (h : Mem w B p v size zs st) {g : Nat} (hg : v.ownBlock = some g) : B ≤ g ∧ g < w.heap.size := h.own.lt g hg

theorem Mem.alloc (h : Mem w B p v size zs st) (o : Obj) : Mem (w.alloc o) B p v size zs st :=
  h.keep (Below.heap_alloc _ _ _ h.lt) (fun _ hg => Below.heap_alloc _ _ _ (h.rowLt hg).2)

theorem Mem.setOther (h : Mem w B p v size zs st) {q : Addr} (h1 : q.block ≠ p) (h2 : v.ownBlock ≠ some q.block) (u : Value) : Mem (w.setCell q u) B p v size zs st :=
  h.keep (Below.heap_setCell _ _ _ _ (fun e => h1 e.symm)) (fun _ hg => Below.heap_setCell _ _ _ _ (fun e => h2 (by rw [hg, e])))

theorem Mem.drewN (h : Mem w B p v size zs st) (n : Nat) : Mem (w.drewN n) B p v size zs st := ⟨h.block, h.low, h.own, h.s0, h.s1, h.room⟩
theorem Mem.drew (h : Mem w B p v size zs st) : Mem w.drew B p v size zs st := ⟨h.block, h.low, h.own, h.s0, h.s1, h.room⟩

theorem Mem.setSteps (h : Mem w B p v size zs st) (x : Int) : Mem (w.setCell ⟨p, 2, none⟩ (.int .i64 x)) B p v size zs x := by
  refine ⟨?_, h.low, ownsRow_setCell_other h.own h.ne _, h.s0, h.s1, h.room⟩
  rw [heap_setCell_same w p 2 _ _ _ h.block]
  rfl

/-- The list's value is another one, which owns more. -/
theorem Mem.setList (h : Mem w B p v size zs st) {v' : Value} {zs' : List Int} (ho : w.ownsRow B 2 1 v' zs'.length (zs'.map (Value.int .i64))) (hr : (zs'.length : Int) ≤ size)
    (hne : v'.ownBlock ≠ some p) : Mem (w.setCell ⟨p, 1, none⟩ v') B p v' size zs' st := by
  refine ⟨?_, h.low, ownsRow_setCell_other ho hne _, h.s0, h.s1, hr⟩
  rw [heap_setCell_same w p 1 _ _ _ h.block]
  rfl

theorem Mem.cell (h : Mem w B p v size zs st) {g cap : Nat} (hv : v = .slice (some ⟨g, 0, none⟩) zs.length cap) {a : Int} (h0 : 0 ≤ a) (h1 : a < zs.length) :
    w.cell? ⟨g, a.toNat, none⟩ = some (.int .i64 (zs.getD a.toNat 0)) ∧ w.frozen? ⟨g, a.toNat, none⟩ = false := by
  subst hv
  have hl : a.toNat < zs.length := by omega
  refine ⟨?_, h.own.frozenAt _⟩
  rw [h.own.cellAt a.toNat (by omega)]
  simp [List.getD, hl]

theorem Mem.setAt (h : Mem w B p v size zs st) {g cap : Nat} (hv : v = .slice (some ⟨g, 0, none⟩) zs.length cap) (j : Nat) (x : Int) :
    Mem (w.setCell ⟨g, j, none⟩ (.int .i64 x)) B p v size (zs.set j x) st := by
  have hne := h.ne
  subst hv
  have hs := (h.own.stored j (.int .i64 x)).1
  refine ⟨?_, h.low, ?_, h.s0, h.s1, by simpa using h.room⟩
  · rw [Below.heap_setCell _ _ _ _ (by simpa [Value.ownBlock, eq_comm] using hne)]; exact h.block
  · simpa [List.map_set] using hs

theorem Mem.did (h : Mem w B p v size zs st) : Did B p v size zs st w w := ⟨v, h, Wrote.refl _ _ _, Later.refl _ _⟩
end

theorem Wrote.below {p : Nat} {v : Value} {w w' : World} {B : Nat} (h : Wrote p v w w') (hB : B ≤ w.heap.size) (hp : B ≤ p) (hv : ∀ g, v.ownBlock = some g → B ≤ g) : Below B w w' :=
  ⟨h.os, h.tape, h.output, h.size, fun k hk => h.block k (by omega) (by omega) (fun e => by have := hv k e; omega)⟩

/-- A memory of which the list's place is not told. -/
def Mem1 (w : World) (B p : Nat) (size : Int) (zs : List Int) (st : Int) : Prop := ∃ v, Mem w B p v size zs st

theorem Did.one {w w' : World} {B p : Nat} {v : Value} {size size' : Int} {zs zs' : List Int} {st st' : Int} (h : Mem w B p v size zs st) (d : Did B p v size' zs' st' w w') : Mem1 w' B p size' zs' st' ∧ Below B w w' := by
  obtain ⟨v', m, wr, _⟩ := d
  exact ⟨⟨v', m⟩, wr.below h.base h.low (fun g hg => (h.rowLt hg).1)⟩

theorem Mem1.keep {w w' : World} {B p : Nat} {size : Int} {zs : List Int} {st : Int} (h : Mem1 w B p size zs st) (b : Below w.heap.size w w') : Mem1 w' B p size zs st := by
  obtain ⟨v, m⟩ := h
  exact ⟨v, m.keep (b.block _ m.lt) (fun g hg => b.block _ (m.rowLt hg).2)⟩

theorem Mem.fresh {w w' : World} {B p : Nat} {v : Value} {size : Int} {zs : List Int} {st : Int} (m : Mem w B p v size zs st) (b : Below w.heap.size w w') : Mem w' B p v size zs st :=
  m.keep (b.block _ m.lt) (fun _ hg => b.block _ (m.rowLt hg).2)

end Go.Proofs.Yteebmcldmiemnaa
