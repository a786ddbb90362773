/-
  Rows of numbers and of what is told, in blocks of one's own, and boxes that hold them; whom the first operations meet, and codes, in rows. Conditions: none; no Go function is looked at here.
-/
import Derived.Test.YtephmkekgmpnpaaLnPl9
import Derived.Test.YtephmkekgmpnpaaStkAt9
namespace Go.Proofs.Ytephmkekgmpnpaa
open Go.RowKit

/-- Numbers in a block of their own. -/
def Rw (w : World) (b : Nat) (k : IntKind) (t : TypeId) (xs : List Int) : Prop := w.heap[b]? = some (.cells (xs.map (Value.int k)).toArray t (0, 0))
section
variable {w w' : World} {b : Nat} {k : IntKind} {t : TypeId} {xs : List Int}
theorem Rw.lt (h : Rw w b k t xs) : b < w.heap.size := lt_of_block h
theorem Rw.keep (h : Rw w b k t xs) (hb : w'.heap[b]? = w.heap[b]?) : Rw w' b k t xs := hb.trans h
theorem Rw.below (h : Rw w b k t xs) (hb : Below w.heap.size w w') : Rw w' b k t xs := h.keep (hb.block b h.lt)
theorem Rw.free (h : Rw w b k t xs) (j : Nat) : w.frozen? ⟨b, j, none⟩ = false := by unfold Rw at h; simp [World.frozen?, h]
theorem Rw.cell (h : Rw w b k t xs) {i : Nat} (hi : i < xs.length) : w.cell? ⟨b, i, none⟩ = some (.int k (xs.getD i 0)) := by
  unfold Rw at h
  simp [World.cell?, h, List.getD, hi]
theorem Rw.set (h : Rw w b k t xs) (i : Nat) (x : Int) : Rw (w.setCell ⟨b, i, none⟩ (.int k x)) b k t (xs.set i x) := by
  unfold Rw at h ⊢
  rw [heap_setCell_same w b i _ _ _ h]
  simp
theorem Rw.reads (h : Rw w b k t xs) {n : Nat} (hn : xs.length = n) : Reads k w (some ⟨b, 0, none⟩) n xs := ⟨hn, fun _ => ⟨b, 0, rfl, h.lt, fun i hi => by rw [Nat.zero_add]; exact h.cell (by omega)⟩⟩
end

/-- A variable that holds a list, whose block is b. -/
def SBx (w : World) (B : Nat) (t : TypeId) (b n : Nat) : Prop := w.heap[B]? = some (.cells #[.slice (some ⟨b, 0, none⟩) n n] t (0, 0))
section
variable {w w' : World} {B b n : Nat} {t : TypeId}
theorem SBx.lt (h : SBx w B t b n) : B < w.heap.size := lt_of_block h
theorem SBx.keep (h : SBx w B t b n) (hb : w'.heap[B]? = w.heap[B]?) : SBx w' B t b n := hb.trans h
theorem SBx.cell (h : SBx w B t b n) : w.cell? ⟨B, 0, none⟩ = some (.slice (some ⟨b, 0, none⟩) n n) := by unfold SBx at h; simp [World.cell?, h]
theorem SBx.new (w : World) (t : TypeId) (b n : Nat) : SBx (w.alloc (.cells #[.slice (some ⟨b, 0, none⟩) n n] t)) w.heap.size t b n := heap_alloc_new w _
end

/-- What is told, after k of n. -/
def codesK (most there : Int) (ks : Nat → Int) (n k : Nat) : List Int := codesL most there ks k ++ List.replicate (n - k) 0
def pairsK (most there : Int) (ks : Nat → Int) (n k : Nat) : List Int := pairsL most there ks k ++ List.replicate (n - k) (-1)
section
variable {most there : Int} {ks : Nat → Int} {n k : Nat}
theorem codesK_length (h : k ≤ n) : (codesK most there ks n k).length = n := by simp [codesK, codesL_length]; omega
theorem pairsK_length (h : k ≤ n) : (pairsK most there ks n k).length = n := by simp [pairsK, pairsL_length]; omega
theorem codesK_all : codesK most there ks n n = codesL most there ks n := by simp [codesK]
theorem pairsK_all : pairsK most there ks n n = pairsL most there ks n := by simp [pairsK]
theorem codesK_none : codesK most there ks n 0 = List.replicate n 0 := by simp [codesK, codesL]
theorem pairsK_none : pairsK most there ks n 0 = List.replicate n (-1) := by simp [pairsK, pairsL]
theorem codesK_put (h : k < n) : (codesK most there ks n k).set k (lineC most (lineAt most there ks k) (ks k)) = codesK most there ks n (k + 1) := by
  unfold codesK
  rw [List.set_append_right _ _ (by rw [codesL_length]; omega), codesL_length, Nat.sub_self, show n - k = (n - (k + 1)) + 1 by omega, List.replicate_succ, List.set_cons_zero, codesL_snoc]
  simp
theorem pairsK_put (h : k < n) : (pairsK most there ks n k).set k (lineP (lineAt most there ks k) (ks k)) = pairsK most there ks n (k + 1) := by
  unfold pairsK
  rw [List.set_append_right _ _ (by rw [pairsL_length]; omega), pairsL_length, Nat.sub_self, show n - k = (n - (k + 1)) + 1 by omega, List.replicate_succ, List.set_cons_zero, pairsL_snoc]
  simp
theorem pairsK_same (h : k < n) (e : lineP (lineAt most there ks k) (ks k) = -1) : pairsK most there ks n k = pairsK most there ks n (k + 1) := by
  unfold pairsK
  rw [pairsL_snoc, e, show n - k = (n - (k + 1)) + 1 by omega, List.replicate_succ]
  simp
end

/-- How many items there may be said to be, of those that may be. -/
def haveOf (x m : Int) : Int := if x < 0 then 0 else if m < x then m else x
theorem haveOf_in (x m : Int) (hm : 0 ≤ m) : 0 ≤ haveOf x m ∧ haveOf x m ≤ m := by unfold haveOf; split <;> (try split) <;> omega

/-- The kinds of operations. -/
def kindsOf (os : List (Int × Int)) (k : Nat) : Int := (os.getD k (0, 0)).1

end Go.Proofs.Ytephmkekgmpnpaa
