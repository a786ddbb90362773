/-
  What is put into its places stands there. Conditions: none; no Go function is looked at here.
-/
import Derived.Test.YtniefplgijpckaaGreatPl11m
import Derived.Test.YtniefplgijpckaaGreatOrdFine11m
namespace Go.Proofs.YtniefplgijpckaaGreat
open Go.RowKit Go.Lib

theorem placeK_at {l : List Int} {t : List (Int × Int)} {n : Nat} (hd : l.Nodup) (hb : ∀ x ∈ l, 0 ≤ x ∧ x < (n : Int)) (hl : l.length = n) : ∀ k i, k ≤ n → i < k → (placeK l t n k).getD (l.getD i 0).toNat (0, 0) = t.getD i (0, 0)
  | 0, i, _, h => by omega
  | k + 1, i, hk, h => by
    have hkl : k < l.length := by omega
    have hil : i < l.length := by omega
    have e1 : l.getD k 0 = l[k] := by simp [List.getD, hkl]
    have e2 : l.getD i 0 = l[i] := by simp [List.getD, hil]
    have b1 := hb l[k] (List.getElem_mem hkl)
    have b2 := hb l[i] (List.getElem_mem hil)
    unfold placeK
    rcases Nat.lt_or_ge i k with h1 | h1
    · have ne : l[i] ≠ l[k] := List.pairwise_iff_getElem.1 hd i k hil hkl h1
      have ne2 : (l.getD k 0).toNat ≠ (l.getD i 0).toNat := by rw [e1, e2]; omega
      rw [List.getD_eq_getElem?_getD, List.getElem?_set_ne ne2, ← List.getD_eq_getElem?_getD]
      exact placeK_at hd hb hl k i (by omega) h1
    · obtain rfl : i = k := by omega
      have hlt : (l.getD i 0).toNat < (placeK l t n i).length := by rw [placeK_length, e2]; omega
      rw [List.getD_eq_getElem?_getD, List.getElem?_set_self hlt]
      rfl


end Go.Proofs.YtniefplgijpckaaGreat
