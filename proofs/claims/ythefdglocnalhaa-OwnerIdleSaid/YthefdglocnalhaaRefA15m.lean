/-
  first of reaperref15; the boxes in which its calls lay a memory and a thread. Conditions: none.
-/
import Derived.Test.YthefdglocnalhaaThrG15
import Derived.Test.YthefdglocnalhaaMRef13
import Derived.BigRegion
namespace Go.Proofs.Ythefdglocnalhaa.M2
open Go.RowKit

set_option maxRecDepth 100000 in
theorem firstA (is : Bool) (a b : Int) (w : World) : Calls Try.prog 49 #[.bool is, .int .i64 a, .int .i64 b] w fun e w' => e = .returned (.int .i64 (fk is a b)) ∧ w = w' := by
  cases is
  · go_enter Try.func49, Try.ntmps49
    go_wp2
    go_ret
    exact ⟨rfl, rfl⟩
  · go_enter Try.func49, Try.ntmps49
    go_wp2
    go_ret
    exact ⟨rfl, rfl⟩

/-- A memory's box anew. -/
def setM (w : World) (g : Nat) (a b d : Value) : World := ((w.setCell ⟨g, 0, none⟩ a).setCell ⟨g, 1, none⟩ b).setCell ⟨g, 2, none⟩ d
theorem setM_other (w : World) {g k : Nat} (hk : k ≠ g) (a b d : Value) : (setM w g a b d).heap[k]? = w.heap[k]? := by
  unfold setM
  repeat rw [Below.heap_setCell _ _ _ _ (by simpa using hk)]
theorem setM_below {a w : World} {B g : Nat} (h : Below B a w) (hg : B ≤ g) (x y z : Value) : Below B a (setM w g x y z) := ((h.setCell hg _).setCell hg _).setCell hg _
theorem Boxed.all {w : World} {g : Nat} {a b d : Value} (h : Boxed w g a b d) (x y z : Value) : Boxed (setM w g x y z) g x y z := ((h.set0 x).set1 y).set2 z

/-- A row of numbers is none of the boxes. -/
theorem own_at {w w' : World} {B n : Nat} {u : Value} {xs : List Value} (h : w.ownsRow B 2 1 u n xs) (k : ∀ (g : Nat) (cs : Array Value), w.heap[g]? = some (Obj.cells cs 2 (0, 0)) → w'.heap[g]? = w.heap[g]?) : w'.ownsRow B 2 1 u n xs := by
  refine ⟨h.1, ?_⟩
  rcases h.2 with hn | ⟨g, cap, cur, rfl, hl, hg, r⟩
  · exact .inl hn
  · exact .inr ⟨g, cap, cur, rfl, hl, (k g _ hg).trans hg, r⟩

/-- Behind all but the last statement: a memory in N, the thread in b1, what is told is still nothing (b2, b3). -/
structure PF (w : World) (B N b1 b2 b3 : Nat) (u : Value) (size : Int) (u' : Value) (zs' : List Int) (st' : Int) (T : Th) (b : Value) (w4 : World) : Prop where
  o : w4.ownsRow B 2 1 u' zs'.length (zs'.map (Value.int .i64))
  l : Later u u' w
  m : Boxed w4 N (.int .i64 size) u' (.int .i64 st')
  x : TX w4 b1 T b
  y : Boxed w4 b2 (.int .i64 0) (.slice none 0 0) (.int .i64 0)
  z : TX w4 b3 t0 (.slice none 0 0)
  b : Below w.heap.size w w4
  g1 : w.heap.size ≤ b1
  g2 : w.heap.size ≤ b2
  g3 : w.heap.size ≤ b3
  n23 : b3 ≠ b2
  n13 : b3 ≠ b1

section
variable {w w4 : World} {B N b1 b2 b3 : Nat} {u u' : Value} {size : Int} {zs' : List Int} {st' : Int} {T : Th} {b : Value}
theorem PF.fin (h : PF w B N b1 b2 b3 u size u' zs' st' T b w4) :
    Boxed (setT (setM w4 b2 (.int .i64 size) u' (.int .i64 st')) b3 T b) b2 (.int .i64 size) u' (.int .i64 st') ∧ TX (setT (setM w4 b2 (.int .i64 size) u' (.int .i64 st')) b3 T b) b3 T b ∧ Left w B u zs' u' (setT (setM w4 b2 (.int .i64 size) u' (.int .i64 st')) b3 T b) := by
  have z1 : TX (setM w4 b2 (.int .i64 size) u' (.int .i64 st')) b3 t0 (.slice none 0 0) := (setM_other w4 h.n23 _ _ _).trans h.z
  refine ⟨(setT_other _ h.n23.symm _ _).trans (h.y.all _ _ _), z1.all T b, own_at h.o ?_, h.l, setT_below (setM_below h.b h.g2 _ _ _) h.g3 _ _⟩
  intro g cs hg
  refine (setT_other _ ?_ _ _).trans (setM_other w4 ?_ _ _ _)
  · rintro rfl
    have := h.z
    unfold TX at this
    rw [hg] at this
    simp at this
  · rintro rfl
    have := h.y
    unfold Boxed at this
    rw [hg] at this
    simp at this
/-- The thread is written to. -/
theorem PF.set (h : PF w B N b1 b2 b3 u size u' zs' st' T b w4) {j : Nat} {v : Value} {T' : Th} (hx : TX (w4.setCell ⟨b1, j, none⟩ v) b1 T' b) : PF w B N b1 b2 b3 u size u' zs' st' T' b (w4.setCell ⟨b1, j, none⟩ v) := by
  have ne : ∀ {k : Nat} {cs : Array Value} {t : TypeId}, w4.heap[k]? = some (Obj.cells cs t (0, 0)) → t ≠ 25 → k ≠ b1 := by
    rintro k cs t hk ht rfl
    have := h.x
    unfold TX at this
    rw [hk] at this
    simp only [Option.some.injEq, Obj.cells.injEq] at this
    exact ht this.2.1
  refine ⟨own_at h.o (fun g cs hg => Below.heap_setCell _ _ _ _ (ne hg (by decide))), h.l, (Below.heap_setCell _ _ _ _ (ne h.m (by decide))).trans h.m, hx, (Below.heap_setCell _ _ _ _ (ne h.y (by decide))).trans h.y, ?_, h.b.setCell h.g1 _, h.g1, h.g2, h.g3, h.n23, h.n13⟩
  exact (Below.heap_setCell _ _ _ _ h.n13).trans h.z
end

end Go.Proofs.Ythefdglocnalhaa.M2
