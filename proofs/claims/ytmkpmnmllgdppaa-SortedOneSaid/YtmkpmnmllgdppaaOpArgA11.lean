/-
  An operation that came in by value. Conditions: none.
-/
import Derived.Test.YtmkpmnmllgdppaaBasA11
import Derived.Lib.SmallJoins
namespace Go.Proofs.Ytmkpmnmllgdppaa
open Go.RowKit Go.ChangeShapes Go.WideShapes Go.Deep Go.Joins

set_option maxRecDepth 100000 in
theorem openOp {r : Reach} {b0 : Nat} {H : Type} {enc : TypeId × Value → H} {W : World} {v : Value} {d : DataW H} {ps : List MemPlace} (hv : Value.okWide Try.prog W r b0 38 v)
    (h : DataW.Trod enc Try.prog W 0 (fun _ => true) true 38 v d ps) : ∃ k x : Int, v = .agg #[.int .u8 k, .int .i32 x] ∧ OpOk (k, x) := by
  obtain ⟨v0, v1, y0, y1, n, rfl, _, _, g0, g1⟩ := open_agg2 Try.underlying38 (by kernel_rfl) cells_op hv h
  obtain ⟨m0, e0, _, w0⟩ := DataW.trod_int Try.underlying5 g0
  obtain ⟨m1, e1, _, w1⟩ := DataW.trod_int Try.underlying21 g1
  simp only [List.cons.injEq, and_true] at e0 e1
  subst e0 e1
  exact ⟨m0, m1, rfl, bounds_u8 w0, bounds_i32 w1⟩

end Go.Proofs.Ytmkpmnmllgdppaa
