/-
  An operation in a block of its own. Conditions: none.
-/
import Derived.Test.YtafocplahmfghaaRowOf10
namespace Go.Proofs.Ytafocplahmfghaa
open Go.RowKit

/-- A kind and a value in a block of their own. -/
def OBox (w : World) (g : Nat) (k v : Int) : Prop := w.heap[g]? = some (.cells #[.int .u8 k, .int .i32 v] 42 (0, 0))
section
variable {w w' : World} {g : Nat} {k v : Int}
theorem OBox.c0 (h : OBox w g k v) : w.cell? ⟨g, 0, none⟩ = some (.int .u8 k) := by unfold OBox at h; simp [World.cell?, h]
theorem OBox.c1 (h : OBox w g k v) : w.cell? ⟨g, 1, none⟩ = some (.int .i32 v) := by unfold OBox at h; simp [World.cell?, h]
theorem OBox.f (h : OBox w g k v) (j : Nat) : w.frozen? ⟨g, j, none⟩ = false := by unfold OBox at h; simp [World.frozen?, h]
theorem OBox.lt (h : OBox w g k v) : g < w.heap.size := lt_of_block h
theorem OBox.set0 (h : OBox w g k v) (k' : Int) : OBox (w.setCell ⟨g, 0, none⟩ (.int .u8 k')) g k' v := by
  unfold OBox at h ⊢
  rw [heap_setCell_same w g 0 _ _ _ h]
  rfl
theorem OBox.keep (h : OBox w g k v) (hb : Below w.heap.size w w') : OBox w' g k v := (hb.block g h.lt).trans h
theorem OBox.other (h : OBox w g k v) {p : Addr} (hp : p.block ≠ g) (u : Value) : OBox (w.setCell p u) g k v := by
  have hw : Wrote (fun q => q = p.block) w (w.setCell p u) := (Wrote.refl (fun q => q = p.block) w).setCell (q := p) (.inr rfl) u
  exact (hw.block g h.lt (fun e => hp e.symm)).trans h
theorem OBox.new (w : World) (k v : Int) : OBox (w.alloc (.cells #[.int .u8 k, .int .i32 v] 42)) w.heap.size k v := heap_alloc_new w _
theorem OBox.alloc (h : OBox w g k v) (o : Obj) : OBox (w.alloc o) g k v := (Below.heap_alloc _ _ _ h.lt).trans h
end

end Go.Proofs.Ytafocplahmfghaa
