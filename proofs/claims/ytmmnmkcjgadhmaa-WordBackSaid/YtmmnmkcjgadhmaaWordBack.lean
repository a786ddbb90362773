/-
  Proves the statement WordBack: for every operation, answer and int64 the function WordBack returns true, and its arguments read behind the call as before. Conditions: none; it speaks of every input.
-/
import Derived.Test.YtmmnmkcjgadhmaaRows
import Derived.Test.YtmmnmkcjgadhmaaBackWalk
import Derived.OpenShut
import Derived.Lib.SmallJoins
namespace Go.Proofs.Ytmmnmkcjgadhmaa.wordBack
open Go.ChangeShapes Go.WideShapes Go.ChangeAt Go.RowKit Go.Joins

theorem own : ownKnob Try.prog.godebug = none := by kernel_rfl
theorem cellsOp : Try.prog.cellsOf 23 = 2 := by kernel_rfl
theorem cellsRes : Try.prog.cellsOf 25 = 2 := by kernel_rfl

set_option maxRecDepth 100000 in
theorem lifted (os : Os) (started : os.Started) (H : Type) (enc : TypeId × Value → H) :
    ReturnsInHanded {} Try.checked os 4 .any (Rows.wordBackSpec.pre6 enc Try.prog Try.f4 Rows.wordBackRow.domain false) (Rows.wordBackSpec.post enc Try.prog Try.f4 false true false false) := by
  refine returnsInHanded_of_change (C := Try.checked) own started (by kernel_rfl) Try.func4
    (ChangeSpec.witness6 (enc := enc) (C := Try.checked) false ⟨#[], #[.agg #[.int .u8 0, .int .i32 0], .agg #[.int .u8 0, .int .i32 0], .int .i64 0], []⟩ 8 (by kernel_rfl) (by kernel_rfl) (by kernel_rfl) (by kernel_rfl)) ?_
  intro W base args ds gs before hval0 hW _ _
  have hval : ∀ (j : Nat) t v, Try.f4.params[j]? = some t → args[j]? = some v → Value.okWide Try.prog W .any base t v := hval0
  have hW' := hW
  obtain ⟨p, q, hA0, hV, rfl, _, _⟩ := hW
  have hA : DataW.TrodAll enc Try.prog W 0 (fun _ => true) true Try.f4.params.toList args.toList ds p := hA0
  rw [Try.params4] at hA hval
  obtain ⟨v0, vs0, d0, ds0, p0, q0, hargs, rfl, rfl, h0, r0⟩ := trodAll_cons hA
  obtain ⟨v1, vs1, d1, ds1, p1, q1, rfl, rfl, rfl, h1, r1⟩ := trodAll_cons r0
  obtain ⟨v2, vs2, d2, ds2, p2, q2, rfl, rfl, rfl, h2, r2⟩ := trodAll_cons r1
  obtain ⟨rfl, rfl, rfl⟩ := trodAll_nil r2
  obtain rfl : args = #[v0, v1, v2] := by cases args; simp_all
  obtain ⟨rfl, rfl⟩ := trodVars_none hV
  obtain ⟨c0, g0, y0, z0, m0, rfl, rfl, rfl, hy0, hz0⟩ := open_agg2 Try.underlying23 (by kernel_rfl) cellsOp (hval 0 23 v0 rfl rfl) h0
  obtain ⟨k0, e0, rfl, wk0⟩ := DataW.trod_int Try.underlying5 hy0
  obtain ⟨x0, j0, rfl, wx0⟩ := DataW.trod_int Try.underlying21 hz0
  simp at e0 j0
  subst e0 j0
  have bk0 := bounds_u8 wk0
  have bx0 := bounds_i32 wx0
  obtain ⟨c1, g1, y1, z1, m1, rfl, rfl, rfl, hy1, hz1⟩ := open_agg2 Try.underlying25 (by kernel_rfl) cellsRes (hval 1 25 v1 rfl rfl) h1
  obtain ⟨k1, e1, rfl, wk1⟩ := DataW.trod_int Try.underlying5 hy1
  obtain ⟨x1, j1, rfl, wx1⟩ := DataW.trod_int Try.underlying21 hz1
  simp at e1 j1
  subst e1 j1
  have bk1 := bounds_u8 wk1
  have bx1 := bounds_i32 wx1
  obtain ⟨a2, rfl, rfl, rfl, w2⟩ := open_int Try.underlying2 (hval 2 2 v2 rfl rfl) h2
  have ba2 := bounds_i64 w2
  clear hA0 hval0
  simp only [List.append_nil] at hW'
  refine (backWalk k0 x0 k1 x1 a2 bk0.1 bk0.2 bx0.1 bx0.2 bk1.1 bk1.2 bx1.1 bx1.2 ba2.1 ba2.2 W).mono fun e W' ⟨he, hg⟩ => ?_
  subst he
  exact ⟨_, rfl, post_of_same (pa := []) (pv := []) hW' (fun _ _ _ => (trodAll_cons_mk (shut_bool Try.underlying4 _) trodAll_mk0))
    (fun sp _ => (trodAll_cons_mk (shut_agg2 (y0 := (.lit (.int .u8 k0), [])) (y1 := (.lit (.int .i32 x0), [])) Try.underlying23 (by kernel_rfl) cellsOp ⟨1, by simp [DataW.trod, Try.underlying5, wk0]⟩ ⟨1, by simp [DataW.trod, Try.underlying21, wx0]⟩) (trodAll_cons_mk (shut_agg2 (y0 := (.lit (.int .u8 k1), [])) (y1 := (.lit (.int .i32 x1), [])) Try.underlying25 (by kernel_rfl) cellsRes ⟨1, by simp [DataW.trod, Try.underlying5, wk1]⟩ ⟨1, by simp [DataW.trod, Try.underlying21, wx1]⟩) (trodAll_cons_mk (shut_int Try.underlying2 w2) trodAll_mk0)))) (fun _ _ => rfl) rfl
    (hg.frame _) hg.marks (ok_one (by kernel_rfl) rfl (okWide_bool_mk Try.underlying4 _))⟩

theorem over : Rows.wordBackRow.holds Try.pinned (OpenSpec.ofChange Rows.wordBackSpec) :=
  OpenClaim.holds_of_wide 4 Try.f4 rfl rfl rfl rfl rfl rfl rfl ⟨rfl, rfl, rfl, rfl, rfl⟩ rfl rfl rfl rfl rfl (by kernel_rfl) Try.func4 (by kernel_rfl)
    (of_decide_eq_true (by kernel_rfl)) (by unfold Func.isWrapper; first | (rw [if_pos (by decide +kernel)]; kernel_rfl) | (rw [if_neg (by decide +kernel)]; exact ⟨rfl, rfl⟩))
    (fun os started H enc _ => lifted os started H enc)

theorem proved : Rows.WordBackSaid := over
#print axioms proved
end Go.Proofs.Ytmmnmkcjgadhmaa.wordBack
