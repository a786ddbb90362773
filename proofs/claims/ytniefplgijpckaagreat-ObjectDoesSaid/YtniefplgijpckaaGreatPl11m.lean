/-
  A batch at a skip list with a coin, in plain lists: items and bits behind its operations, one behind the other; the same in one go. Conditions: none; no Go function is looked at here.
-/
import Derived.Test.YtniefplgijpckaaGreatRefA12
import Derived.Test.YtniefplgijpckaaGreatRefC12
import Derived.Test.YtniefplgijpckaaGreatSkD12
import Derived.Test.YtniefplgijpckaaGreatCoiA12
namespace Go.Proofs.YtniefplgijpckaaGreat
open Go.RowKit Go.Lib

/-- Items and bits behind one operation. -/
def stS (m : Int) (s : List It × List Bool) (o : Int × Int) : List It × List Bool :=
  if o.1 = 1 then (if (s.1.length : Int) < m then (insIt ⟨o.2, up s.2 + 1⟩ s.1, left s.2) else s) else if o.1 = 2 then (s.1.tail, s.2) else s
/-- Behind some, one behind the other. -/
def runS (m : Int) (s : List It × List Bool) (os : List (Int × Int)) : List It × List Bool := os.foldl (stS m) s
/-- Behind a batch. -/
def batS (m : Int) (s : List It × List Bool) (os : List (Int × Int)) : List It × List Bool := runS m s (ordO 3 os)
/-- The items' values. -/
def vals (l : List It) : List Int := l.map It.v

theorem runS_snoc (m : Int) (s : List It × List Bool) (os : List (Int × Int)) (o : Int × Int) : runS m s (os ++ [o]) = stS m (runS m s os) o := by simp [runS]
theorem runS_append (m : Int) (s : List It × List Bool) (a b : List (Int × Int)) : runS m s (a ++ b) = runS m (runS m s a) b := by simp [runS]

theorem vals_length (l : List It) : (vals l).length = l.length := by simp [vals]
theorem vals_take (x : Int) : ∀ l : List It, (l.takeWhile (fun i => decide (i.v ≤ x))).map It.v = (vals l).take (fgt x (vals l)) ∧ (l.dropWhile (fun i => decide (i.v ≤ x))).map It.v = (vals l).drop (fgt x (vals l))
  | [] => by simp [vals, fgt]
  | i :: l => by
    by_cases h : i.v ≤ x
    · obtain ⟨h1, h2⟩ := vals_take x l
      rw [List.takeWhile_cons_of_pos (by simpa using h), List.dropWhile_cons_of_pos (by simpa using h)]
      have e : fgt x (vals (i :: l)) = fgt x (vals l) + 1 := by
        show fgt x (i.v :: vals l) = _
        rw [fgt, if_neg (by omega)]
      rw [e]
      show i.v :: _ = (i.v :: vals l).take _ ∧ _ = (i.v :: vals l).drop _
      rw [List.take_succ_cons, List.drop_succ_cons, h1]
      exact ⟨rfl, h2⟩
    · rw [List.takeWhile_cons_of_neg (by simpa using h), List.dropWhile_cons_of_neg (by simpa using h)]
      have e : fgt x (vals (i :: l)) = 0 := by
        show fgt x (i.v :: vals l) = _
        rw [fgt, if_pos (by omega)]
      rw [e]
      exact ⟨rfl, rfl⟩
theorem vals_ins (x : Int) (h : Nat) (l : List It) : vals (insIt ⟨x, h⟩ l) = (vals l).take (fgt x (vals l)) ++ x :: (vals l).drop (fgt x (vals l)) := by
  obtain ⟨h1, h2⟩ := vals_take x l
  rw [← h1, ← h2]
  unfold insIt vals
  simp
theorem stS_vals (m : Int) (s : List It × List Bool) (o : Int × Int) : vals (stS m s o).1 = objL 3 m (vals s.1) o.1 o.2 := by
  unfold stS objL hpL
  rw [if_neg (show ¬ (3 : Int) = 1 by omega), if_neg (show ¬ (3 : Int) = 2 by omega), if_pos rfl, vals_length]
  by_cases h1 : o.1 = 1
  · rw [if_pos h1, if_pos h1]
    by_cases h2 : (s.1.length : Int) < m
    · rw [if_pos h2, if_pos h2]; exact vals_ins _ _ _
    · rw [if_neg h2, if_neg h2]
  · rw [if_neg h1, if_neg h1]
    by_cases h2 : o.1 = 2
    · rw [if_pos h2, if_pos h2]; simp [vals]
    · rw [if_neg h2, if_neg h2]
theorem runS_vals (m : Int) : ∀ (os : List (Int × Int)) (s : List It × List Bool), vals (runS m s os).1 = runZ 3 m (vals s.1) os
  | [], _ => rfl
  | o :: os, s => by
    show vals (runS m (stS m s o) os).1 = runZ 3 m (objL 3 m (vals s.1) o.1 o.2) os
    rw [runS_vals m os, stS_vals]
theorem batS_vals (m : Int) (s : List It × List Bool) (os : List (Int × Int)) : vals (batS m s os).1 = batZ 3 m (vals s.1) os := runS_vals m _ s

theorem stS_len {m : Int} {s : List It × List Bool} (h : (s.1.length : Int) ≤ m) (o : Int × Int) : ((stS m s o).1.length : Int) ≤ m := by
  unfold stS
  split
  · split
    · rw [insIt_length]; simp; omega
    · exact h
  · split
    · simp; omega
    · exact h
theorem runS_len {m : Int} : ∀ (os : List (Int × Int)) {s : List It × List Bool}, (s.1.length : Int) ≤ m → ((runS m s os).1.length : Int) ≤ m
  | [], _, h => h
  | o :: os, s, h => by
    show ((runS m (stS m s o) os).1.length : Int) ≤ m
    exact runS_len os (stS_len h o)

/-- The bits that are left behind so many heights, and the heights. -/
def lefts (bs : List Bool) : Nat → List Bool
  | 0 => bs
  | k + 1 => left (lefts bs k)
def hgts (bs : List Bool) (r : Nat) : List Int := (List.range r).map fun i => (up (lefts bs i) : Int) + 1
theorem hgts_length (bs : List Bool) (r : Nat) : (hgts bs r).length = r := by simp [hgts]
theorem hgts_at (bs : List Bool) {r k : Nat} (h : k < r) (d : Int) : (hgts bs r).getD k d = (up (lefts bs k) : Int) + 1 := by simp [hgts, List.getD, h]
theorem lefts_len (bs : List Bool) : ∀ k, (lefts bs k).length ≤ bs.length
  | 0 => Nat.le_refl _
  | k + 1 => Nat.le_trans (left_le _) (lefts_len bs k)

/-- Those that put, by their order; their values. -/
def addsL (os : List (Int × Int)) : List Int := sortB (keyOf os) (addsOf 3 os os.length)
def othersL (os : List (Int × Int)) : List Int := othersOf 3 os os.length
def valsL (os : List (Int × Int)) : List Int := (addsL os).map (keyOf os)
theorem ordL_parts (os : List (Int × Int)) : ordL 3 os = addsL os ++ othersL os := rfl
theorem parts_length (os : List (Int × Int)) : (addsL os).length + (othersL os).length = os.length := by
  have := ordL_length 3 os
  rw [ordL_parts, List.length_append] at this
  exact this
theorem addsL_in {os : List (Int × Int)} {x : Int} (h : x ∈ addsL os) : 0 ≤ x ∧ x < os.length ∧ (os.getD x.toNat (0, 0)).1 = 1 := by
  have := List.mem_filter.1 ((sortB_ok (keyOf os) (addsOf 3 os os.length)).1.mem_iff.1 h)
  have h2 := mem_idx.1 this.1
  exact ⟨h2.1, h2.2, by simpa [isAdd] using this.2⟩
theorem othersL_in {os : List (Int × Int)} {x : Int} (h : x ∈ othersL os) : 0 ≤ x ∧ x < os.length ∧ ¬ (os.getD x.toNat (0, 0)).1 = 1 := by
  have := List.mem_filter.1 h
  have h2 := mem_idx.1 this.1
  exact ⟨h2.1, h2.2, by simpa [isAdd] using this.2⟩
theorem getD_mem {l : List Int} {k : Nat} (h : k < l.length) (d : Int) : l.getD k d ∈ l := by simp [List.getD, h]
theorem addsL_at {os : List (Int × Int)} {k : Nat} (h : k < (addsL os).length) : 0 ≤ (addsL os).getD k 0 ∧ (addsL os).getD k 0 < os.length ∧ (os.getD ((addsL os).getD k 0).toNat (0, 0)).1 = 1 := addsL_in (getD_mem h 0)
theorem othersL_at {os : List (Int × Int)} {k : Nat} (h : k < (othersL os).length) : 0 ≤ (othersL os).getD k 0 ∧ (othersL os).getD k 0 < os.length ∧ ¬ (os.getD ((othersL os).getD k 0).toNat (0, 0)).1 = 1 := othersL_in (getD_mem h 0)
theorem valsL_length (os : List (Int × Int)) : (valsL os).length = (addsL os).length := by simp [valsL]
theorem valsL_at {os : List (Int × Int)} {k : Nat} (h : k < (addsL os).length) : (valsL os).getD k 0 = keyOf os ((addsL os).getD k 0) := by simp [valsL, List.getD, h]
theorem valsL_adj (os : List (Int × Int)) : adjB (valsL os) = true := by
  rw [adjB_iff]
  intro k h0 hk
  rw [valsL_length] at hk
  have hs : Srt (keyOf os) (addsL os) := (sortB_ok (keyOf os) (addsOf 3 os os.length)).2
  have h := List.pairwise_iff_getElem.1 hs (k - 1) k (by omega) hk (by omega)
  rw [valsL_at (by omega), valsL_at hk]
  have e1 : (addsL os).getD (k - 1) 0 = (addsL os)[k - 1] := by simp [List.getD, show k - 1 < (addsL os).length by omega]
  have e2 : (addsL os).getD k 0 = (addsL os)[k] := by simp [List.getD, hk]
  rw [e1, e2]
  unfold kLe at h
  omega

theorem ordO_add {os : List (Int × Int)} {k : Nat} (h : k < (addsL os).length) : (ordO 3 os).getD k (0, 0) = (1, (valsL os).getD k 0) := by
  have hn := parts_length os
  have e : (ordL 3 os).getD k 0 = (addsL os).getD k 0 := by rw [ordL_parts]; exact getD_left _ _ _ h
  rw [ordO_at (by omega), e, valsL_at h]
  exact Prod.ext (addsL_at h).2.2 rfl
theorem ordO_other {os : List (Int × Int)} {j : Nat} (h : j < (othersL os).length) : (ordO 3 os).getD ((addsL os).length + j) (0, 0) = os.getD ((othersL os).getD j 0).toNat (0, 0) := by
  have hn := parts_length os
  have e : (ordL 3 os).getD ((addsL os).length + j) 0 = (othersL os).getD j 0 := by rw [ordL_parts]; exact getD_at _ _ _
  rw [ordO_at (by omega), e]

theorem take_ord {os : List (Int × Int)} {k : Nat} (h : k < os.length) : (ordO 3 os).take (k + 1) = (ordO 3 os).take k ++ [(ordO 3 os).getD k (0, 0)] := take_op8 _ k (by rw [ordO_length]; exact h) rfl

/-- As many as there is room for. -/
def roomS (m : Int) (l : List It) (os : List (Int × Int)) : Nat := min (m - l.length).toNat (addsL os).length
theorem room_is {m : Int} {l : List It} (os : List (Int × Int)) : roomOf m l (valsL os) = roomS m l os := by
  unfold roomOf roomS
  rw [valsL_adj, if_pos rfl, valsL_length]

/-- Those that put, in one go. -/
theorem adds_go {m : Int} {l : List It} (bs : List Bool) (os : List (Int × Int)) (hl : (l.length : Int) ≤ m) : ∀ k, k ≤ (addsL os).length →
    runS m (l, bs) ((ordO 3 os).take k) = (insMany l (valsL os) (hgts bs (roomS m l os)) (min k (roomS m l os)), lefts bs (min k (roomS m l os)))
  | 0, _ => by simp [runS, insMany, lefts]
  | k + 1, hk => by
    have hn := parts_length os
    rw [take_ord (by omega), runS_snoc, adds_go bs os hl k (by omega), ordO_add (by omega)]
    unfold stS
    rw [if_pos rfl, insMany_length]
    by_cases hr : k < roomS m l os
    · have hm : k + 1 ≤ (m - l.length).toNat := Nat.le_trans hr (Nat.min_le_left _ _)
      rw [Nat.min_eq_left (by omega), Nat.min_eq_left (by omega), if_pos (by simp; omega)]
      show (_, _) = (insIt _ _, left _)
      rw [hgts_at bs hr]
      have hu := up_le (lefts bs k)
      have e : hOf ((up (lefts bs k) : Int) + 1) = up (lefts bs k) + 1 := by unfold hOf; split <;> (try split) <;> omega
      rw [e]
    · have hm : (m - l.length).toNat ≤ k := by unfold roomS at hr; omega
      have er : roomS m l os = (m - l.length).toNat := by unfold roomS; omega
      rw [Nat.min_eq_right (by omega), Nat.min_eq_right (by omega), if_neg (by simp; omega)]

theorem adds_all {m : Int} {l : List It} (bs : List Bool) (os : List (Int × Int)) (hl : (l.length : Int) ≤ m) :
    runS m (l, bs) ((ordO 3 os).take (addsL os).length) = (insMany l (valsL os) (hgts bs (roomS m l os)) (roomS m l os), lefts bs (roomS m l os)) := by
  have := adds_go bs os hl (addsL os).length (Nat.le_refl _)
  rwa [Nat.min_eq_right (by unfold roomS; omega)] at this

/-- What who puts is told. -/
theorem adds_told {m : Int} {l : List It} (bs : List Bool) (os : List (Int × Int)) (hl : (l.length : Int) ≤ m) {k : Nat} (hk : k < (addsL os).length) :
    (runT 3 m (vals l) (ordO 3 os)).getD k (0, 0) = (if (toldB (roomS m l os) (addsL os).length).getD k false then 1 else 3, 0) := by
  have hn := parts_length os
  rw [runT_at _ _ _ _ (by rw [ordO_length]; omega), ordO_add hk]
  have e := runS_vals m ((ordO 3 os).take k) (l, bs)
  rw [← e, adds_go bs os hl k (by omega)]
  have et : (toldB (roomS m l os) (addsL os).length).getD k false = decide (k < roomS m l os) := by
    unfold toldB
    by_cases h : k < roomS m l os
    · simp [List.getD, List.getElem?_append, h]
    · simp only [List.getD, List.getElem?_append, List.length_replicate, if_neg h, List.getElem?_replicate]
      split <;> simp [h]
  rw [et]
  unfold objC objV hpC hpV
  simp only [vals_length, insMany_length, if_neg (show ¬ (3 : Int) = 1 by omega), if_neg (show ¬ (3 : Int) = 2 by omega), if_true, if_neg (show ¬ (1 : Int) = 2 by omega)]
  by_cases h : k < roomS m l os
  · have hm : k + 1 ≤ (m - l.length).toNat := Nat.le_trans h (Nat.min_le_left _ _)
    rw [if_pos (by simp; omega), if_pos (by simpa using h)]
  · have er : roomS m l os = (m - l.length).toNat := by unfold roomS at h ⊢; omega
    rw [if_neg (by simp; omega), if_neg (by simpa using h)]

/-- What one that puts nothing is told. -/
theorem others_told {m : Int} {l : List It} (bs : List Bool) (os : List (Int × Int)) {k : Nat} (hk : k < os.length) {Z : List It} {B : List Bool} (hZ : runS m (l, bs) ((ordO 3 os).take k) = (Z, B)) {kd kv : Int} (ho : (ordO 3 os).getD k (0, 0) = (kd, kv)) :
    (runT 3 m (vals l) (ordO 3 os)).getD k (0, 0) = (hpC m (vals Z) kd, hpV (vals Z) kd) ∧ runS m (l, bs) ((ordO 3 os).take (k + 1)) = stS m (Z, B) (kd, kv) := by
  constructor
  · rw [runT_at _ _ _ _ (by rw [ordO_length]; omega), ho]
    have e := runS_vals m ((ordO 3 os).take k) (l, bs)
    rw [← e, hZ]
    unfold objC objV
    simp only [if_neg (show ¬ (3 : Int) = 1 by omega), if_neg (show ¬ (3 : Int) = 2 by omega), if_true]
  · rw [take_ord hk, runS_snoc, hZ, ho]

theorem batS_end (m : Int) (s : List It × List Bool) (os : List (Int × Int)) {k : Nat} (h : os.length ≤ k) : runS m s ((ordO 3 os).take k) = batS m s os := by
  rw [List.take_of_length_le (by rw [ordO_length]; exact h)]
  rfl

end Go.Proofs.YtniefplgijpckaaGreat
