/-
  Records that hang together: one more is put ahead of them, one is taken out, in plain lists. Conditions: none.
-/
import Derived.Test.YtikaoikladbdpaaGreatG3016
namespace Go.Proofs.YtikaoikladbdpaaGreat.M2
open Go.RowKit

theorem few : ∀ (n : Nat) (ps : List Nat), ps.Nodup → (∀ a ∈ ps, ∃ j, j < n ∧ a = 3 + 5 * j) → ps.length ≤ n := by
  intro n
  induction n with
  | zero =>
    intro ps _ h
    cases ps with
    | nil => exact Nat.le_refl _
    | cons a ps => obtain ⟨j, hj, _⟩ := h a (by simp); omega
  | succ n ih =>
    intro ps hn h
    have h1 := ih (ps.erase (3 + 5 * n)) (hn.erase _) (fun a ha => by
      have hne := (hn.mem_erase_iff.1 ha).1
      obtain ⟨j, hj, e⟩ := h a (hn.mem_erase_iff.1 ha).2
      refine ⟨j, ?_, e⟩
      by_cases hjn : j = n
      · subst hjn; exact absurd e hne
      · omega)
    by_cases hm : 3 + 5 * n ∈ ps
    · rw [List.length_erase_of_mem hm] at h1; omega
    · rw [List.erase_of_not_mem hm] at h1; omega
theorem Os.le {n : Nat} {ps : List Nat} (h : Os n ps) : ps.length ≤ n := few n ps h.nod h.isr

section
variable {n : Nat} {ps : List Nat} {zs : List Int}

end

end Go.Proofs.YtikaoikladbdpaaGreat.M2
