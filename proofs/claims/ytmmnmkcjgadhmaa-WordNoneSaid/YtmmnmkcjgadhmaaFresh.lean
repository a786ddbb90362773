/-
  What a call that only makes new memory leaves behind: 'Fresh w w2' says that every block of w, and every mark, is as it was. No condition; no Go function is looked at here.
-/
import Derived.Test.YtmmnmkcjgadhmaaProg
import Derived.WalkKit
import Derived.ProofKit
import Derived.Below
import Derived.RowKit3
import Derived.WalkSmall
namespace Go.Proofs.Ytmmnmkcjgadhmaa
open Go.RowKit

/-- The second world has what the first one had, and at most new blocks of cells. -/
structure Fresh (w w' : World) : Prop where
  below : Below w.heap.size w w'
  marks : ∀ a, w'.frozen? a = w.frozen? a

theorem Fresh.refl (w : World) : Fresh w w := ⟨Below.refl _ _, fun _ => rfl⟩
theorem Fresh.trans {a b c : World} (h : Fresh a b) (k : Fresh b c) : Fresh a c :=
  ⟨h.below.trans (k.below.mono h.below.size), fun x => (k.marks x).trans (h.marks x)⟩
theorem Fresh.alloc {a w : World} (h : Fresh a w) (c : Array Value) (t : TypeId) : Fresh a (w.alloc (.cells c t)) :=
  ⟨h.below.alloc h.below.size _, fun x => (frozen?_alloc_cells w c t x).trans (h.marks x)⟩
theorem Fresh.drew {a w : World} (h : Fresh a w) : Fresh a w.drew := ⟨h.below.drew, h.marks⟩
theorem Fresh.drewN {a w : World} (h : Fresh a w) (n : Nat) : Fresh a (w.drewN n) := ⟨below_drewN h.below n, h.marks⟩
theorem Fresh.setCell {a w : World} (h : Fresh a w) {p : Addr} (hp : a.heap.size ≤ p.block) (v : Value) : Fresh a (w.setCell p v) :=
  ⟨h.below.setCell hp v, fun x => (World.frozen?_setCell w p x v).trans (h.marks x)⟩
theorem Fresh.size {w w' : World} (h : Fresh w w') : w.heap.size ≤ w'.heap.size := h.below.size
theorem Fresh.cell {w w' : World} (h : Fresh w w') : ∀ b o, b < w.heap.size → w'.cell? ⟨b, o, none⟩ = w.cell? ⟨b, o, none⟩ :=
  fun b o hb => h.below.cell (p := ⟨b, o, none⟩) hb
theorem Fresh.keep {w w' : World} (h : Fresh w w') {a : Addr} {v : Value} (hc : w.cell? a = some v) : w'.cell? a = some v :=
  (h.below.cell (World.block_lt_of_cell? w _ hc)).trans hc
theorem Fresh.frame {W w' : World} (h : Fresh W w') (may : MemPlace → Prop) : W.keptBut w' may := h.below.frame may

theorem two_cells (w : World) (a b c d : Value) (t u : TypeId) : ∀ W, (w.alloc (.cells #[a, b] t)).alloc (.cells #[c, d] u) = W →
    W.cell? ⟨w.heap.size, 0, none⟩ = some a ∧ W.cell? ⟨w.heap.size, 1, none⟩ = some b ∧ W.cell? ⟨w.heap.size + 1, 0, none⟩ = some c ∧ W.cell? ⟨w.heap.size + 1, 1, none⟩ = some d ∧ Fresh w W := by
  rintro W rfl
  refine ⟨?_, ?_, ?_, ?_, ((Fresh.refl w).alloc _ _).alloc _ _⟩
  all_goals go_simp

end Go.Proofs.Ytmmnmkcjgadhmaa
