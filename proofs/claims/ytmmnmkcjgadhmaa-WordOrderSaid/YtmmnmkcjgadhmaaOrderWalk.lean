/-
  The walk of WordOrder: for every two operations it answers true and leaves all old memory as it was.
-/
import Derived.Test.YtmmnmkcjgadhmaaWordKnown
namespace Go.Proofs.Ytmmnmkcjgadhmaa
open Go.RowKit

theorem wd_lt_val {k v k' v' : Int} (k0 : 0 ≤ k) (k1 : k ≤ 255) (j0 : 0 ≤ k') (j1 : k' ≤ 255) (h : v < v') : wd k v < wd k' v' := by unfold wd; omega
theorem wd_lt_kind {k v k' : Int} (h : k < k') : wd k v < wd k' v := by unfold wd; omega

/-- The walk where the two words are known to stand as 'h' says; the cases of the order are parted ahead of it. -/
def Cased (k v k' v' : Int) : Prop :=
  (v < v' ∧ wd k v < wd k' v') ∨ (v = v' ∧ k < k' ∧ wd k v < wd k' v') ∨ (v = v' ∧ k = k') ∨ (v = v' ∧ k' < k ∧ wd k' v' < wd k v) ∨ (v' < v ∧ wd k' v' < wd k v)
theorem cased {k v k' v' : Int} (k0 : 0 ≤ k) (k1 : k ≤ 255) (j0 : 0 ≤ k') (j1 : k' ≤ 255) : Cased k v k' v' := by
  unfold Cased wd
  omega

set_option maxRecDepth 100000 in
set_option maxHeartbeats 4000000 in
theorem orderWalk (k v k' v' : Int) (k0 : 0 ≤ k) (k1 : k ≤ 255) (v0 : -2147483648 ≤ v) (v1 : v ≤ 2147483647) (j0 : 0 ≤ k') (j1 : k' ≤ 255) (u0 : -2147483648 ≤ v') (u1 : v' ≤ 2147483647) (w : World) :
    Calls Try.prog 5 #[.agg #[.int .u8 k, .int .i32 v], .agg #[.int .u8 k', .int .i32 v']] w fun e w' => e = .returned (.bool true) ∧ Fresh w w' := by
  have hb := wd_bd k0 k1 v0 v1
  rcases cased (k := k) (v := v) (k' := k') (v' := v') k0 k1 j0 j1 with ⟨hv, hw⟩ | ⟨rfl, hk, hw⟩ | ⟨rfl, rfl⟩ | ⟨rfl, hk, hw⟩ | ⟨hv, hw⟩
  all_goals
    go_enter Try.func5, Try.ntmps5
    go_wp2_with fail
    refine (wordOp _ _ k0 k1 v0 v1 _).mono ?_
    rintro e w1 ⟨rfl, f1⟩
    generalize hW : ((w.alloc _).alloc _) = W at f1
    obtain ⟨c0, c1, c2, c3, F0⟩ := two_cells w _ _ _ _ _ _ W hW
    clear hW
    have d0 := f1.keep c0
    have d1 := f1.keep c1
    have d2 := f1.keep c2
    have d3 := f1.keep c3
    have F1 := Lib.hid (F0.trans f1)
    clear f1 F0 c0 c1 c2 c3
    go_wp2_with fail
    refine (wordOp _ _ (by omega) (by omega) (by omega) (by omega) _).mono ?_
    rintro e w2 ⟨rfl, f2⟩
    have e0 := f2.keep d0
    have e1 := f2.keep d1
    have e2 := f2.keep d2
    have e3 := f2.keep d3
    have F2 := Lib.hid (F1.out.trans f2)
    clear f2 F1 d0 d1 d2 d3
    go_wp2_with fail
    refine (known _).mono ?_
    rintro e w3 ⟨rfl, f3⟩
    have g0 := f3.keep e0
    have g1 := f3.keep e1
    have g2 := f3.keep e2
    have g3 := f3.keep e3
    have F3 := Lib.hid (F2.out.trans f3)
    clear f3 F2 e0 e1 e2 e3
    go_wp2_with fail
    refine (wordRes _ _ (by omega) (by omega) (by omega) (by omega) _).mono ?_
    rintro e w4 ⟨rfl, f4⟩
    have F4 := Lib.hid (F3.out.trans f4)
    clear f4 F3
    go_wp2
    go_ret
    exact ⟨by simp <;> omega, F4.out⟩

end Go.Proofs.Ytmmnmkcjgadhmaa
