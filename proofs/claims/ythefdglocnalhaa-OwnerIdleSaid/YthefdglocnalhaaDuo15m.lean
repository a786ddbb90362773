/-
  A memory and the document's one side by side, their lists apart: kept by what makes new blocks, by a call on one of them, by what writes to a box of its own. Conditions: none; no Go function is looked at here.
-/
import Derived.Test.YthefdglocnalhaaMemoWalk15m
namespace Go.Proofs.Ythefdglocnalhaa.M2
open Go.RowKit

/-- A memory (zs, st), and the document's list u of numbers ys. -/
structure DM (w : World) (p : Nat) (v u : Value) (size : Int) (zs : List Int) (st : Int) (ys : List Int) (wr : World) : Prop where
  m : Mem wr w.heap.size p v size zs st
  o : wr.ownsRow w.heap.size 2 1 u ys.length (ys.map (Value.int .i64))
  n : ∀ g, u.ownBlock = some g → v.ownBlock ≠ some g
  b : Below w.heap.size w wr

section
variable {w : World} {p : Nat} {v u : Value} {size : Int} {zs ys : List Int} {st : Int}

theorem DM.fresh {a b : World} (h : DM w p v u size zs st ys a) (hb : Below a.heap.size a b) : DM w p v u size zs st ys b :=
  ⟨h.m.fresh hb, own_keep h.o hb, h.n, h.b.trans (hb.mono h.b.size)⟩

/-- A call on the memory alone. -/
theorem DM.did {a w' : World} {zs' : List Int} {st' : Int} (h : DM w p v u size zs st ys a) (d : Did w.heap.size p v size zs' st' a w') : ∃ v', DM w p v' u size zs' st' ys w' := by
  obtain ⟨v', m', wr, lt⟩ := d
  refine ⟨v', m', ⟨h.o.1, ?_⟩, ?_, h.b.trans (wr.below h.b.size h.m.low (fun g hg => (h.m.rowLt hg).1))⟩
  · rcases h.o.2 with hn | ⟨g, cap, cur, rfl, hb, hg, r⟩
    · exact .inl hn
    · refine .inr ⟨g, cap, cur, rfl, hb, (wr.block g (lt_of_block hg) ?_ (h.n g rfl)).trans hg, r⟩
      rintro rfl
      have e1 := h.m.block
      rw [hg] at e1
      simp at e1
  · intro g hg e
    rcases lt g e with h1 | h1
    · exact h.n g hg h1
    · have := (h.o.lt g hg).2
      omega

/-- A call on the document's one alone. -/
theorem DM.left {a b : World} {ys' : List Int} {u' : Value} (h : DM w p v u size zs st ys a) (l : Left a w.heap.size u ys' u' b) : DM w p v u' size zs st ys' b := by
  obtain ⟨o', lt, bl⟩ := l
  refine ⟨h.m.fresh bl, o', fun g hg e => ?_, h.b.trans (bl.mono h.b.size)⟩
  rcases lt g hg with h1 | h1
  · exact h.n g h1 e
  · have := (h.m.rowLt e).2
    omega

/-- A box of another kind is written to. -/
theorem DM.other {a b : World} {g : Nat} {cs : Array Value} {ty : TypeId} (h : DM w p v u size zs st ys a) (hg : a.heap[g]? = some (.cells cs ty (0, 0))) (h1 : ty ≠ 2) (h2 : ty ≠ 102) (hk : ∀ k, k ≠ g → b.heap[k]? = a.heap[k]?) (hb : Below w.heap.size w b) : DM w p v u size zs st ys b := by
  have row : ∀ {B : Nat} {x : Value} {n : Nat} {xs : List Value} {g' : Nat}, a.ownsRow B 2 1 x n xs → x.ownBlock = some g' → g' ≠ g := by
    rintro B x n xs g' ho hx rfl
    rcases ho.2 with ⟨rfl, _⟩ | ⟨g2, cap, cur, rfl, _, hg2, _⟩
    · simp [Value.ownBlock] at hx
    · simp only [Value.ownBlock, Option.some.injEq] at hx
      subst hx
      rw [hg] at hg2
      simp only [Option.some.injEq, Obj.cells.injEq] at hg2
      exact h1 hg2.2.1
  refine ⟨h.m.keep (hk p ?_) (fun g' hg' => hk g' (row h.m.own hg')), _root_.Go.Proofs.Ythefdglocnalhaa.own_keep h.o (fun g' hg' => hk g' (row h.o hg')), h.n, hb⟩
  rintro rfl
  have e1 := h.m.block
  rw [hg] at e1
  simp only [Option.some.injEq, Obj.cells.injEq] at e1
  exact h2 e1.2.1
end

end Go.Proofs.Ythefdglocnalhaa.M2
