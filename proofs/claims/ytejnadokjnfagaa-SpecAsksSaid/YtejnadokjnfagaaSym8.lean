/-
  slices.symMergeCmpFunc merges two sorted ranges of a row of ints that lie side by side, however many numbers they have. Conditions: a row of one's own; a comparison as CmpAt says; the left numbers are less than the right ones.
-/
import Derived.Test.YtejnadokjnfagaaSymM8
import Derived.Test.YtejnadokjnfagaaSymO8
namespace Go.Proofs.Ytejnadokjnfagaa
open Go.RowKit

theorem symAll {g n cap : Nat} (key : Int → Int) (N : Int) (B : Nat) (hn : n ≤ 1000000) : ∀ K, SymSaid g n cap key N B K := by
  intro K
  induction K with
  | zero => intro w P L R S a m b hK; omega
  | succ K ih =>
    intro w P L R S a m b hK h hr hC ha hm hb
    by_cases h1 : 1 < L.length
    · by_cases h2 : 1 < R.length
      · exact symMain ih w P L R S a m b (by omega) h hr hC h1 h2 ha hm hb hn
      · obtain ⟨y, rfl⟩ := List.length_eq_one_iff.1 (show R.length = 1 by have := h.r0; omega)
        exact symRight w P L S y a m b hr hC h.ls (fun x hx => h.lt x hx y (by simp)) h1 (fun x hx => h.ok x (by simp at hx ⊢; rcases hx with h3 | h3; exact .inr h3; exact .inl h3)) ha hm (by simpa using hb) hn
    · obtain ⟨x, rfl⟩ := List.length_eq_one_iff.1 (show L.length = 1 by have := h.l0; omega)
      exact symLeft w P R S x a m b hr hC h.rs (fun y hy => h.lt x (by simp) y hy) (fun y hy => h.ok y (by simpa using hy)) ha (by simpa using hm) (by simpa using hb) hn

theorem symMerge {g n cap : Nat} {key : Int → Int} {N : Int} {B : Nat} (w : World) (P L R S : List Int) (a m b : Int) (h : TwoOk key N L R) (hr : IRow w g n cap (P ++ L ++ R ++ S)) (hC : CmpAt key N B g w) (ha : a = P.length) (hm : m = P.length + L.length) (hb : b = P.length + L.length + R.length) (hn : n ≤ 1000000) :
    Calls Try.prog 48 #[.slice (some ⟨g, 0, none⟩) n cap, .int .i64 a, .int .i64 m, .int .i64 b, .func (.func 31) #[] #[.pointer (some ⟨B, 0, none⟩)]] w (Sortd w g n cap key P (L ++ R) S) :=
  symAll key N B hn (L.length + R.length + 1) w P L R S a m b (by omega) h hr hC ha hm hb

end Go.Proofs.Ytejnadokjnfagaa
