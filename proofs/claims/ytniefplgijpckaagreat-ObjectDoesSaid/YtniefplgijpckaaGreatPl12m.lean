/-
  What an object makes of a batch, in plain lists: one state for each of the three kinds; the stack's and the deque's own words for it. Conditions: none; no Go function is looked at here.
-/
import Derived.Test.YtniefplgijpckaaGreatPl11m
import Derived.Test.YtniefplgijpckaaGreatKE12
import Derived.Test.YtniefplgijpckaaGreatDE12
namespace Go.Proofs.YtniefplgijpckaaGreat
open Go.RowKit Go.Lib

/-- Values as items that are not high. -/
def flat0 (zs : List Int) : List It := zs.map fun v => ⟨v, 0⟩
theorem vals_flat0 (zs : List Int) : vals (flat0 zs) = zs := by
  unfold vals flat0
  rw [List.map_map]
  exact List.map_id _
/-- Items and bits behind a batch at an object. -/
def objS (k m : Int) (s : List It × List Bool) (os : List (Int × Int)) : List It × List Bool := if k = 3 then batS m s os else (flat0 (batZ k m (vals s.1) os), s.2)
theorem objS_heap (m : Int) (s : List It × List Bool) (os : List (Int × Int)) : objS 3 m s os = batS m s os := if_pos rfl
theorem objS_other {k m : Int} {s : List It × List Bool} {os : List (Int × Int)} (h : ¬ k = 3) : objS k m s os = (flat0 (batZ k m (vals s.1) os), s.2) := if_neg h
theorem objS_vals (k m : Int) (s : List It × List Bool) (os : List (Int × Int)) : vals (objS k m s os).1 = batZ k m (vals s.1) os := by
  by_cases h : k = 3
  · subst h; rw [objS_heap]; exact batS_vals m s os
  · rw [objS_other h]; exact vals_flat0 _

section
variable {k m : Int} {zs : List Int} {os : List (Int × Int)} {n j : Nat}
theorem ordO_plain (h : ¬ k = 3) : ordO k os = os := by
  refine List.ext_getElem (ordO_length k os) fun i h1 h2 => ?_
  have e := ordO_at (obj := k) h2
  rw [ordL_plain h, idx_getD h2, Int.toNat_natCast] at e
  simpa [List.getD, h1, h2] using e
theorem batZ_plain (h : ¬ k = 3) : batZ k m zs os = runZ k m zs os := by unfold batZ; rw [ordO_plain h]
theorem place_plain (T : List (Int × Int)) (hT : T.length = n) : ∀ j, j ≤ n → placeK (idx n) T n j = T.take j ++ List.replicate (n - j) (0, 0)
  | 0, _ => by simp [placeK]
  | j + 1, h => by
    unfold placeK
    rw [place_plain T hT j (by omega), idx_getD (by omega), Int.toNat_natCast, List.set_append_right _ _ (by simp; omega), List.length_take, Nat.min_eq_left (by omega), Nat.sub_self, show n - j = (n - (j + 1)) + 1 by omega, List.replicate_succ, List.set_cons_zero, List.take_succ_eq_append_getElem (by omega), List.append_assoc]
    simp [List.getD, show j < T.length by omega]
theorem batT_plain (h : ¬ k = 3) : batT k m zs os = runT k m zs os := by
  unfold batT
  rw [ordO_plain h, ordL_plain h, place_plain _ (runT_length _ _ _ _) _ (Nat.le_refl _), Nat.sub_self, List.replicate_zero, List.append_nil]
  exact List.take_of_length_le (by rw [runT_length]; exact Nat.le_refl _)
theorem run_step (h : j < os.length) : runZ k m zs (os.take (j + 1)) = objL k m (runZ k m zs (os.take j)) (os.getD j (0, 0)).1 (os.getD j (0, 0)).2 := by
  rw [take_op8 os j h rfl, runZ_snoc]
theorem told_step (h : j < os.length) : runT k m zs (os.take (j + 1)) = runT k m zs (os.take j) ++ [(objC k m (runZ k m zs (os.take j)) (os.getD j (0, 0)).1, objV k (runZ k m zs (os.take j)) (os.getD j (0, 0)).1)] := by
  rw [take_op8 os j h rfl, runT_snoc]
theorem runZ_all (h : os.length ≤ n) : runZ k m zs (os.take n) = runZ k m zs os := by rw [List.take_of_length_le h]

theorem K9.items_run : ∀ j, j ≤ os.length → K9.itemsAt m zs os j = runZ 1 m zs (os.take j)
  | 0, _ => rfl
  | j + 1, h => by
    rw [run_step (by omega), ← K9.items_run j (by omega)]
    rfl
theorem K9.res_run : ∀ j, j ≤ os.length → K9.resL m zs os j = runT 1 m zs (os.take j)
  | 0, _ => rfl
  | j + 1, h => by
    rw [told_step (by omega), ← K9.items_run j (by omega), K9.resL_snoc, K9.res_run j (by omega)]
    rfl
theorem K9.told_bat (h : os.length = n) : K9.resL m zs os n = batT 1 m zs os ∧ K9.itemsAt m zs os n = batZ 1 m zs os := by
  subst h
  rw [K9.res_run _ (Nat.le_refl _), K9.items_run _ (Nat.le_refl _), batT_plain (by decide), batZ_plain (by decide), List.take_length]
  exact ⟨rfl, rfl⟩
theorem D10.items_run : ∀ j, j ≤ os.length → D10.itA m zs os j = runZ 2 m zs (os.take j)
  | 0, _ => rfl
  | j + 1, h => by
    rw [run_step (by omega), ← D10.items_run j (by omega)]
    rfl
theorem D10.res_run : ∀ j, j ≤ os.length → D10.resL m zs os j = runT 2 m zs (os.take j)
  | 0, _ => rfl
  | j + 1, h => by
    rw [told_step (by omega), ← D10.items_run j (by omega), D10.resL_snoc, D10.res_run j (by omega)]
    rfl
theorem D10.told_bat (h : os.length = n) : D10.resL m zs os n = batT 2 m zs os ∧ D10.itA m zs os n = batZ 2 m zs os := by
  subst h
  rw [D10.res_run _ (Nat.le_refl _), D10.items_run _ (Nat.le_refl _), batT_plain (by decide), batZ_plain (by decide), List.take_length]
  exact ⟨rfl, rfl⟩
/-- What is told, of the first j of n. -/
def turnR (k m : Int) (zs : List Int) (os : List (Int × Int)) (n j : Nat) : List (Int × Int) := runT k m zs (os.take j) ++ List.replicate (n - j) (0, 0)
theorem turnR_length (h : os.length = n) (hj : j ≤ n) : (turnR k m zs os n j).length = n := by unfold turnR; rw [List.length_append, runT_length, List.length_take, List.length_replicate]; omega
theorem turnR_none : turnR k m zs os n 0 = List.replicate n (0, 0) := by simp [turnR, runT]
theorem turnR_all (h : os.length = n) : turnR k m zs os n n = runT k m zs os := by
  unfold turnR
  rw [List.take_of_length_le (by omega), Nat.sub_self, List.replicate_zero, List.append_nil]
theorem turnR_next (h : os.length = n) (hj : j < n) : (turnR k m zs os n j).set j (objC k m (runZ k m zs (os.take j)) (os.getD j (0, 0)).1, objV k (runZ k m zs (os.take j)) (os.getD j (0, 0)).1) = turnR k m zs os n (j + 1) := by
  have hl : (runT k m zs (os.take j)).length = j := by rw [runT_length, List.length_take]; omega
  unfold turnR
  rw [told_step (by omega), List.set_append_right _ _ (by omega), hl, Nat.sub_self, show n - j = (n - (j + 1)) + 1 by omega, List.replicate_succ, List.set_cons_zero, List.append_assoc]
  rfl
/-- How many items there are. -/
theorem runZ_room (h : (zs.length : Int) ≤ m) : ((runZ k m zs os).length : Int) ≤ m := by
  induction os generalizing zs with
  | nil => exact h
  | cons o os ih =>
    refine ih ?_
    show ((objL k m zs o.1 o.2).length : Int) ≤ m
    rcases objL_length k m zs o.1 o.2 with h1 | h1
    · omega
    · omega
theorem batZ_room (h : (zs.length : Int) ≤ m) : ((batZ k m zs os).length : Int) ≤ m := runZ_room h
theorem objS_room {s : List It × List Bool} (h : (s.1.length : Int) ≤ m) : ((objS k m s os).1.length : Int) ≤ m := by
  have := batZ_room (k := k) (os := os) (show ((vals s.1).length : Int) ≤ m by rw [vals_length]; exact h)
  rw [← objS_vals, vals_length] at this
  exact this
/-- A batch of one, and of none. -/
theorem ordL_one (o : Int × Int) : ordL k [o] = [0] := List.perm_singleton.1 (ordK_perm k [o] 1)
theorem ordO_one (o : Int × Int) : ordO k [o] = [o] := by unfold ordO; rw [ordL_one]; rfl
theorem batZ_one (o : Int × Int) : batZ k m zs [o] = objL k m zs o.1 o.2 := by unfold batZ; rw [ordO_one]; rfl
theorem batT_one (o : Int × Int) : batT k m zs [o] = [(objC k m zs o.1, objV k zs o.1)] := by unfold batT; rw [ordO_one, ordL_one]; rfl
theorem runT_at12 (h : j < os.length) : (runT k m zs os).getD j (0, 0) = (objC k m (runZ k m zs (os.take j)) (os.getD j (0, 0)).1, objV k (runZ k m zs (os.take j)) (os.getD j (0, 0)).1) := runT_at k m zs os h
end

end Go.Proofs.YtniefplgijpckaaGreat
