/-
  Rows of numbers and of what is told, in blocks of one's own, and boxes that hold them; whom the first operations meet, and codes, in rows. Conditions: none; no Go function is looked at here. A row of what is told, in a block of one's own: codes and values. Conditions: none; no Go function is looked at here. A batch at a stack, in plain lists: what one by one makes of the items, and what each is told; and that a line with the items that are left says the same. Conditions: none; no Go function is looked at here.
-/
import Derived.Test.YtniefplgijpckaaGreatKA12
import Derived.Test.YtniefplgijpckaaGreatKB12
namespace Go.Proofs.YtniefplgijpckaaGreat.K9
open Go.RowKit

section
variable {w w' : World} {b : Nat} {k : IntKind} {t : TypeId} {xs : List Int}
end

/-- A variable that holds a list, whose block is b. -/
def SBx (w : World) (B : Nat) (t : TypeId) (b n : Nat) : Prop := w.heap[B]? = some (.cells #[.slice (some ⟨b, 0, none⟩) n n] t (0, 0))
section
variable {w w' : World} {B b n : Nat} {t : TypeId}
theorem SBx.lt (h : SBx w B t b n) : B < w.heap.size := lt_of_block h
theorem SBx.keep (h : SBx w B t b n) (hb : w'.heap[B]? = w.heap[B]?) : SBx w' B t b n := hb.trans h
theorem SBx.cell (h : SBx w B t b n) : w.cell? ⟨B, 0, none⟩ = some (.slice (some ⟨b, 0, none⟩) n n) := by unfold SBx at h; simp [World.cell?, h]
theorem SBx.new (w : World) (t : TypeId) (b n : Nat) : SBx (w.alloc (.cells #[.slice (some ⟨b, 0, none⟩) n n] t)) w.heap.size t b n := heap_alloc_new w _
end

/-- What is told, after k of n. -/
def codesK (most there : Int) (ks : Nat → Int) (n k : Nat) : List Int := codesL most there ks k ++ List.replicate (n - k) 0
def pairsK (most there : Int) (ks : Nat → Int) (n k : Nat) : List Int := pairsL most there ks k ++ List.replicate (n - k) (-1)
section
variable {most there : Int} {ks : Nat → Int} {n k : Nat}
theorem codesK_length (h : k ≤ n) : (codesK most there ks n k).length = n := by simp [codesK, codesL_length]; omega
theorem pairsK_length (h : k ≤ n) : (pairsK most there ks n k).length = n := by simp [pairsK, pairsL_length]; omega
theorem codesK_all : codesK most there ks n n = codesL most there ks n := by simp [codesK]
theorem pairsK_all : pairsK most there ks n n = pairsL most there ks n := by simp [pairsK]
theorem codesK_none : codesK most there ks n 0 = List.replicate n 0 := by simp [codesK, codesL]
theorem pairsK_none : pairsK most there ks n 0 = List.replicate n (-1) := by simp [pairsK, pairsL]
theorem codesK_put (h : k < n) : (codesK most there ks n k).set k (lineC most (lineAt most there ks k) (ks k)) = codesK most there ks n (k + 1) := by
  unfold codesK
  rw [List.set_append_right _ _ (by rw [codesL_length]; omega), codesL_length, Nat.sub_self, show n - k = (n - (k + 1)) + 1 by omega, List.replicate_succ, List.set_cons_zero, codesL_snoc]
  simp
theorem pairsK_put (h : k < n) : (pairsK most there ks n k).set k (lineP (lineAt most there ks k) (ks k)) = pairsK most there ks n (k + 1) := by
  unfold pairsK
  rw [List.set_append_right _ _ (by rw [pairsL_length]; omega), pairsL_length, Nat.sub_self, show n - k = (n - (k + 1)) + 1 by omega, List.replicate_succ, List.set_cons_zero, pairsL_snoc]
  simp
theorem pairsK_same (h : k < n) (e : lineP (lineAt most there ks k) (ks k) = -1) : pairsK most there ks n k = pairsK most there ks n (k + 1) := by
  unfold pairsK
  rw [pairsL_snoc, e, show n - k = (n - (k + 1)) + 1 by omega, List.replicate_succ]
  simp
end

/-- How many items there may be said to be, of those that may be. -/
def haveOf (x m : Int) : Int := if x < 0 then 0 else if m < x then m else x
theorem haveOf_in (x m : Int) (hm : 0 ≤ m) : 0 ≤ haveOf x m ∧ haveOf x m ≤ m := by unfold haveOf; split <;> (try split) <;> omega

/-- The kinds of operations. -/
def kindsOf (os : List (Int × Int)) (k : Nat) : Int := (os.getD k (0, 0)).1

end Go.Proofs.YtniefplgijpckaaGreat.K9
namespace Go.Proofs.YtniefplgijpckaaGreat.K9
open Go.RowKit

section
variable {w w' : World} {b i : Nat} {rs : List (Int × Int)}
end


end Go.Proofs.YtniefplgijpckaaGreat.K9
namespace Go.Proofs.YtniefplgijpckaaGreat.K9

/-- An operation's kind, its value. -/
def valOf (os : List (Int × Int)) (j : Int) : Int := (os.getD j.toNat (0, 0)).2
/-- The items behind the first k operations. -/
def itemsAt (most : Int) (zs : List Int) (os : List (Int × Int)) : Nat → List Int
  | 0 => zs
  | k + 1 => stkL most (itemsAt most zs os k) (kindsOf os k) (valOf os k)
/-- The code, and the value, that operation k is told. -/
def codeAt (most : Int) (zs : List Int) (os : List (Int × Int)) (k : Nat) : Int := stkC most (itemsAt most zs os k) (kindsOf os k)
def valAt (most : Int) (zs : List Int) (os : List (Int × Int)) (k : Nat) : Int := stkV (itemsAt most zs os k) (kindsOf os k)
/-- What the first k are told. -/
def resL (most : Int) (zs : List Int) (os : List (Int × Int)) (k : Nat) : List (Int × Int) := (List.range k).map fun i => (codeAt most zs os i, valAt most zs os i)
def resK (most : Int) (zs : List Int) (os : List (Int × Int)) (n k : Nat) : List (Int × Int) := resL most zs os k ++ List.replicate (n - k) (0, 0)

/-- The items that a line speaks of. -/
def lineItems (zs : List Int) (os : List (Int × Int)) (s : Int × List Int) : List Int := zs.take s.1.toNat ++ s.2.map (valOf os)

section
variable {most : Int} {zs : List Int} {os : List (Int × Int)} {n k : Nat}
theorem resL_length : (resL most zs os k).length = k := by simp [resL]
theorem resK_length (h : k ≤ n) : (resK most zs os n k).length = n := by simp [resK, resL_length]; omega
theorem resL_snoc : resL most zs os (k + 1) = resL most zs os k ++ [(codeAt most zs os k, valAt most zs os k)] := by simp [resL, List.range_succ]
theorem resL_getD (h : k < n) : (resL most zs os n).getD k (0, 0) = (codeAt most zs os k, valAt most zs os k) := by simp [resL, List.getD, h]
theorem resK_all : resK most zs os n n = resL most zs os n := by simp [resK]
theorem resK_none : resK most zs os n 0 = List.replicate n (0, 0) := by simp [resK, resL]
theorem resK_at (h : k < n) : (resK most zs os n k).getD k (0, 0) = (0, 0) := by
  unfold resK
  obtain ⟨d, hd⟩ : ∃ d, n - k = d + 1 := ⟨n - k - 1, by omega⟩
  simp [List.getD, List.getElem?_append_right, resL_length, hd]
theorem resK_put (h : k < n) : (resK most zs os n k).set k (codeAt most zs os k, valAt most zs os k) = resK most zs os n (k + 1) := by
  unfold resK
  rw [List.set_append_right _ _ (by rw [resL_length]; omega), resL_length, Nat.sub_self, show n - k = (n - (k + 1)) + 1 by omega, List.replicate_succ, List.set_cons_zero, resL_snoc]
  simp
/-- A value is written ahead of its code. -/
def resV (most : Int) (zs : List Int) (os : List (Int × Int)) (n k : Nat) : List (Int × Int) := (resK most zs os n k).set k (0, valAt most zs os k)
theorem resV_length (h : k ≤ n) : (resV most zs os n k).length = n := by simp [resV, resK_length h]
theorem resV_at (h : k < n) : (resV most zs os n k).getD k (0, 0) = (0, valAt most zs os k) := by
  unfold resV
  simp [List.getD, resK_length (Nat.le_of_lt h), h]
theorem resV_put (h : k < n) : (resV most zs os n k).set k (codeAt most zs os k, ((resV most zs os n k).getD k (0, 0)).2) = resK most zs os n (k + 1) := by
  rw [resV_at h]
  unfold resV
  rw [List.set_set, resK_put h]
theorem resV_set (h : k < n) : (resK most zs os n k).set k (((resK most zs os n k).getD k (0, 0)).1, valAt most zs os k) = resV most zs os n k := by
  rw [resK_at h]; rfl
theorem resV_idle (h : k < n) (e : valAt most zs os k = 0) : resV most zs os n k = resK most zs os n k := by
  unfold resV
  rw [e]
  apply List.ext_getElem?
  intro i
  by_cases hi : i = k
  · subst hi
    have := resK_at (most := most) (zs := zs) (os := os) h
    have hl : i < (resK most zs os n i).length := by rw [resK_length (Nat.le_of_lt h)]; exact h
    simp only [List.getD, List.getElem?_eq_getElem hl, Option.getD_some] at this
    simp [hl, this]
  · rw [List.getElem?_set_ne (by omega)]

theorem take_pred {zs : List Int} {t : Nat} (h : t < zs.length) : zs.take (t + 1) = zs.take t ++ [zs.getD t 0] := by
  rw [List.take_succ_eq_append_getElem h]; simp [List.getD, h]

/-- One by one, or in a line: the same items. -/
theorem line_items (hz : (zs.length : Int) ≤ most) : ∀ k, itemsAt most zs os k = lineItems zs os (lineAt most zs.length (kindsOf os) k)
  | 0 => by simp [itemsAt, lineItems, lineAt]
  | k + 1 => by
    have ih := line_items hz k
    have ho := lineAt_ok (show (0 : Int) ≤ zs.length by omega) hz (kindsOf os) k
    simp only [itemsAt, lineAt, ih]
    generalize hS : lineAt most zs.length (kindsOf os) k = s at *
    obtain ⟨t, ps⟩ := s
    obtain ⟨h1, h2, h3, h4⟩ := ho
    simp only at h1 h2 h3 h4
    have hlen : ((lineItems zs os (t, ps)).length : Int) = t + ps.length := by simp [lineItems]; omega
    unfold lineStep stkL
    by_cases k1 : kindsOf os k = 1
    · simp only [k1, if_true]
      rw [hlen]
      by_cases hf : t + (ps.length : Int) < most
      · simp only [if_pos hf]
        simp [lineItems]
      · simp only [if_neg hf]
    · by_cases k2 : kindsOf os k = 2
      · simp only [k2, if_true, if_neg (show ¬ (2 : Int) = 1 by omega)]
        by_cases hp : ps = []
        · subst hp
          simp only [if_true]
          by_cases ht : 0 < t
          · simp only [if_pos ht]
            obtain ⟨m, hm⟩ : ∃ m : Nat, t = ((m + 1 : Nat) : Int) := ⟨t.toNat - 1, by omega⟩
            subst hm
            have e1 : (((m + 1 : Nat) : Int) - 1).toNat = m := by omega
            have e2 : ((m + 1 : Nat) : Int).toNat = m + 1 := by omega
            simp only [lineItems, e1, e2, List.map_nil, List.append_nil]
            rw [take_pred (by omega), List.dropLast_concat]
          · obtain rfl : t = 0 := by omega
            simp [lineItems]
        · simp only [if_neg hp]
          rcases List.eq_nil_or_concat ps with e | ⟨ys, y, e⟩
          · exact absurd e hp
          · rw [List.concat_eq_append] at e
            subst e
            simp only [lineItems, List.map_append, List.map_cons, List.map_nil, List.dropLast_concat]
            rw [← List.append_assoc, List.dropLast_concat]
      · simp only [if_neg k1, if_neg k2]

theorem line_code (hz : (zs.length : Int) ≤ most) (k : Nat) : lineC most (lineAt most zs.length (kindsOf os) k) (kindsOf os k) = codeAt most zs os k := by
  unfold codeAt
  rw [line_items hz k]
  have ho := lineAt_ok (show (0 : Int) ≤ zs.length by omega) hz (kindsOf os) k
  generalize lineAt most zs.length (kindsOf os) k = s at *
  obtain ⟨t, ps⟩ := s
  obtain ⟨h1, h2, h3, h4⟩ := ho
  simp only at h1 h2 h3 h4
  have hlen : ((lineItems zs os (t, ps)).length : Int) = t + ps.length := by simp [lineItems]; omega
  unfold lineC stkC
  rw [hlen]
  by_cases k1 : kindsOf os k = 1
  · simp only [k1, if_true]
  · by_cases k2 : kindsOf os k = 2
    · simp only [k2, if_true, if_neg (show ¬ (2 : Int) = 1 by omega)]
      by_cases hp : ps = []
      · subst hp
        by_cases ht : 0 < t
        · have : lineItems zs os (t, []) ≠ [] := by
            intro e
            rw [e] at hlen
            simp at hlen
            omega
          simp [ht, this]
        · obtain rfl : t = 0 := by omega
          simp [lineItems]
      · have : lineItems zs os (t, ps) ≠ [] := by
          intro e
          rw [e] at hlen
          have := List.length_pos_iff.2 hp
          simp at hlen
          omega
        simp [hp, this]
    · simp only [if_neg k1, if_neg k2]

theorem line_meet (hz : (zs.length : Int) ≤ most) {k : Nat} (hk : kindsOf os k = 2) {ys : List Int} {j : Int} (hs : (lineAt most zs.length (kindsOf os) k).2 = ys ++ [j]) : valAt most zs os k = valOf os j := by
  unfold valAt
  rw [line_items hz k]
  unfold lineItems stkV
  rw [hs, hk]
  simp only [List.map_append, List.map_cons, List.map_nil, if_true]
  rw [← List.append_assoc, List.getLastD_concat]
theorem line_take (hz : (zs.length : Int) ≤ most) {k : Nat} (hk : kindsOf os k = 2) (hs : (lineAt most zs.length (kindsOf os) k).2 = []) {m : Nat} (ht : (lineAt most zs.length (kindsOf os) k).1 = ((m + 1 : Nat) : Int)) : valAt most zs os k = zs.getD m 0 ∧ m < zs.length := by
  have ho := lineAt_ok (show (0 : Int) ≤ zs.length by omega) hz (kindsOf os) k
  have hm : m < zs.length := by have := ho.high; omega
  refine ⟨?_, hm⟩
  unfold valAt
  rw [line_items hz k]
  unfold lineItems stkV
  rw [hs, hk, ht, show ((m + 1 : Nat) : Int).toNat = m + 1 by omega, take_pred hm]
  simp
theorem line_idle (hz : (zs.length : Int) ≤ most) {k : Nat} (hno : kindsOf os k = 2 → (lineAt most zs.length (kindsOf os) k).2 = [] ∧ ¬ 0 < (lineAt most zs.length (kindsOf os) k).1) : valAt most zs os k = 0 := by
  unfold valAt stkV
  split
  · rename_i hk
    obtain ⟨h1, h2⟩ := hno hk
    rw [line_items hz k]
    have ho := lineAt_ok (show (0 : Int) ≤ zs.length by omega) hz (kindsOf os) k
    have e : (lineAt most zs.length (kindsOf os) k).1 = 0 := by have := ho.low; omega
    unfold lineItems
    rw [h1, e]
    simp
  · rfl
theorem itemsAt_le (hz : (zs.length : Int) ≤ most) (k : Nat) : ((itemsAt most zs os k).length : Int) ≤ most := by
  have ho := lineAt_ok (show (0 : Int) ≤ zs.length by omega) hz (kindsOf os) k
  rw [line_items hz k]
  generalize lineAt most zs.length (kindsOf os) k = s at *
  obtain ⟨t, ps⟩ := s
  obtain ⟨h1, h2, h3, h4⟩ := ho
  simp only at h1 h2 h3
  simp [lineItems]; omega
end

end Go.Proofs.YtniefplgijpckaaGreat.K9
