/-
  Proves the statement WordParts: for every operation the function WordParts returns true, and its argument reads behind the call as before. Conditions: none; it speaks of every input.
-/
import Derived.Test.YtmmnmkcjgadhmaaRows
import Derived.Test.YtmmnmkcjgadhmaaPartsWalk
import Derived.OpenShut
import Derived.Lib.SmallJoins
namespace Go.Proofs.Ytmmnmkcjgadhmaa.wordParts
open Go.ChangeShapes Go.WideShapes Go.ChangeAt Go.RowKit Go.Joins

theorem own : ownKnob Try.prog.godebug = none := by kernel_rfl
theorem cellsOp : Try.prog.cellsOf 23 = 2 := by kernel_rfl

set_option maxRecDepth 100000 in
theorem lifted (os : Os) (started : os.Started) (H : Type) (enc : TypeId × Value → H) :
    ReturnsInHanded {} Try.checked os 6 .any (Rows.wordPartsSpec.pre6 enc Try.prog Try.f6 Rows.wordPartsRow.domain false) (Rows.wordPartsSpec.post enc Try.prog Try.f6 false true false false) := by
  refine returnsInHanded_of_change (C := Try.checked) own started (by kernel_rfl) Try.func6
    (ChangeSpec.witness6 (enc := enc) (C := Try.checked) false ⟨#[], #[.agg #[.int .u8 0, .int .i32 0]], []⟩ 8 (by kernel_rfl) (by kernel_rfl) (by kernel_rfl) (by kernel_rfl)) ?_
  intro W base args ds gs before hval0 hW _ _
  have hval : ∀ (j : Nat) t v, Try.f6.params[j]? = some t → args[j]? = some v → Value.okWide Try.prog W .any base t v := hval0
  have hW' := hW
  obtain ⟨p, q, hA0, hV, rfl, _, _⟩ := hW
  have hA : DataW.TrodAll enc Try.prog W 0 (fun _ => true) true Try.f6.params.toList args.toList ds p := hA0
  rw [Try.params6] at hA hval
  obtain ⟨v0, vs0, d0, ds0, p0, q0, hargs, rfl, rfl, h0, r0⟩ := trodAll_cons hA
  obtain ⟨rfl, rfl, rfl⟩ := trodAll_nil r0
  obtain rfl : args = #[v0] := by cases args; simp_all
  obtain ⟨rfl, rfl⟩ := trodVars_none hV
  obtain ⟨c0, g0, y0, z0, m0, rfl, rfl, rfl, hy0, hz0⟩ := open_agg2 Try.underlying23 (by kernel_rfl) cellsOp (hval 0 23 v0 rfl rfl) h0
  obtain ⟨k0, e0, rfl, wk0⟩ := DataW.trod_int Try.underlying5 hy0
  obtain ⟨x0, j0, rfl, wx0⟩ := DataW.trod_int Try.underlying21 hz0
  simp at e0 j0
  subst e0 j0
  have bk0 := bounds_u8 wk0
  have bx0 := bounds_i32 wx0
  clear hA0 hval0
  simp only [List.append_nil] at hW'
  refine (partsWalk k0 x0 bk0.1 bk0.2 bx0.1 bx0.2 W).mono fun e W' ⟨he, hg⟩ => ?_
  subst he
  exact ⟨_, rfl, post_of_same (pa := []) (pv := []) hW' (fun _ _ _ => (trodAll_cons_mk (shut_bool Try.underlying4 _) trodAll_mk0))
    (fun sp _ => (trodAll_cons_mk (shut_agg2 (y0 := (.lit (.int .u8 k0), [])) (y1 := (.lit (.int .i32 x0), [])) Try.underlying23 (by kernel_rfl) cellsOp ⟨1, by simp [DataW.trod, Try.underlying5, wk0]⟩ ⟨1, by simp [DataW.trod, Try.underlying21, wx0]⟩) trodAll_mk0)) (fun _ _ => rfl) rfl
    (hg.frame _) hg.marks (ok_one (by kernel_rfl) rfl (okWide_bool_mk Try.underlying4 _))⟩

theorem over : Rows.wordPartsRow.holds Try.pinned (OpenSpec.ofChange Rows.wordPartsSpec) :=
  OpenClaim.holds_of_wide 6 Try.f6 rfl rfl rfl rfl rfl rfl rfl ⟨rfl, rfl, rfl, rfl, rfl⟩ rfl rfl rfl rfl rfl (by kernel_rfl) Try.func6 (by kernel_rfl)
    (of_decide_eq_true (by kernel_rfl)) (by unfold Func.isWrapper; first | (rw [if_pos (by decide +kernel)]; kernel_rfl) | (rw [if_neg (by decide +kernel)]; exact ⟨rfl, rfl⟩))
    (fun os started H enc _ => lifted os started H enc)

theorem proved : Rows.WordPartsSaid := over
#print axioms proved
end Go.Proofs.Ytmmnmkcjgadhmaa.wordParts
