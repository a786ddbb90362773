/-
  slices.rotateCmpFunc exchanges two ranges of a row of ints that lie side by side. Conditions: a row of one's own.
-/
import Derived.Test.YtejnadokjnfagaaSwap8
namespace Go.Proofs.Ytejnadokjnfagaa
open Go.RowKit

def RotRel (w : World) (g n cap : Nat) (m : Nat) (T : List Int) (i j : Value) (wr : World) : Prop :=
  ∃ P U V S : List Int, i = .int .i64 U.length ∧ j = .int .i64 V.length ∧ 0 < U.length ∧ 0 < V.length ∧ P.length + U.length = m ∧ IRow wr g n cap (P ++ U ++ V ++ S) ∧ P ++ V ++ U ++ S = T ∧ Wrote (At1 g) w wr

theorem front_of {l : List Int} {k : Nat} (h : k ≤ l.length) : ∃ a b, l = a ++ b ∧ a.length = k ∧ b.length = l.length - k := ⟨l.take k, l.drop k, by simp, by simp; omega, by simp⟩

set_option maxRecDepth 100000 in
set_option maxHeartbeats 4000000 in
theorem rotateRow (w : World) (g n cap : Nat) (P U V S : List Int) (a m b : Int) (f : Value) (h : IRow w g n cap (P ++ U ++ V ++ S)) (hu : 0 < U.length) (hv : 0 < V.length) (ha : a = P.length) (hm : m = P.length + U.length) (hb : b = P.length + U.length + V.length) (hn : n ≤ 1000000) :
    Calls Try.prog 52 #[.slice (some ⟨g, 0, none⟩) n cap, .int .i64 a, .int .i64 m, .int .i64 b, f] w (Rearr w g n cap (P ++ V ++ U ++ S)) := by
  have hl : P.length + U.length + V.length + S.length = n := by have := h.len; simp at this; omega
  obtain ⟨M, hM⟩ : ∃ M : Nat, P.length + U.length = M := ⟨_, rfl⟩
  obtain rfl : m = M := by omega
  have ea : (M : Int) - a = U.length := by omega
  have eb : b - (M : Int) = V.length := by omega
  have a0 : 0 ≤ (M : Int) - a := by omega
  have a1 : (M : Int) - a ≤ n := by omega
  have b0 : 0 ≤ b - (M : Int) := by omega
  have b1 : b - (M : Int) ≤ n := by omega
  obtain ⟨T, hT⟩ : ∃ T, P ++ V ++ U ++ S = T := ⟨_, rfl⟩
  rw [hT]
  have HS := Lib.hid (show RotRel w g n cap M T (.int .i64 U.length) (.int .i64 V.length) w from ⟨P, U, V, S, rfl, rfl, hu, hv, hM, h, hT, Wrote.refl _ _⟩)
  have hMn : M ≤ n := by omega
  have u1 : (U.length : Int) ≤ n := by omega
  have v1 : (V.length : Int) ≤ n := by omega
  clear h hT hM hm ha hb hl
  generalize (U.length : Int) = u at *
  generalize (V.length : Int) = v at *
  have HEA := Lib.hid ea
  have HEB := Lib.hid eb
  clear ea eb u1 v1
  go_enter Try.func52, Try.ntmps52
  go_wp2
  go_loopw [10, 11] (fun i j wr => RotRel w g n cap M T i j wr) (fun i j _ => (intOf i).toNat + (intOf j).toNat)
  case atStart => rw [HEA.out, HEB.out]; exact HS.out
  case round =>
    obtain ⟨P', U', V', S', rfl, rfl, hu', hv', hM', hr, hT, hw⟩ := hrel
    have hl : P'.length + U'.length + V'.length + S'.length = n := by have := hr.len; simp at this; omega
    have HR := Lib.hid hr
    have HW := Lib.hid hw
    have HT := Lib.hid hT
    have HM := Lib.hid (And.intro hM' hl)
    clear HS hr hw hT hM' hl
    rcases Nat.lt_trichotomy U'.length V'.length with hlt | heq | hgt
    · have hM' := HM.out.1
      have hl := HM.out.2
      obtain ⟨V1, V2, e1, l1, l2⟩ := front_of (l := V') (k := V'.length - U'.length) (by omega)
      have d0 : ((U'.length : Int) == (V'.length : Int)) = false := beq_eq_false_iff_ne.2 (by omega)
      have d1 : ((U'.length : Int) != (V'.length : Int)) = true := bne_iff_ne.2 (by omega)
      have d2 : ¬ (V'.length : Int) < (U'.length : Int) := by omega
      have C := swapRange wr g n cap P' U' V1 V2 S' ((M : Int) - U'.length) ((M : Int) + V'.length - U'.length) U'.length f (by have := HR.out; rw [e1] at this; simpa using this) (by omega) rfl (by omega) (by omega) hn
      have HC := Lib.hid C
      have HE := Lib.hid (And.intro e1 (And.intro l1 l2))
      have k1 : (0 : Int) ≤ (M : Int) - U'.length := by omega
      have k2 : (0 : Int) ≤ (M : Int) + V'.length - U'.length := by omega
      have k3 : (M : Int) + V'.length ≤ n := by omega
      clear C e1 l1 l2 HR hM' hl
      go_wp2_with fail
      refine HC.out.mono ?_
      rintro e w2 ⟨rfl, r2, h2⟩
      have HR2 := Lib.hid r2
      have HW2 := Lib.hid (HW.out.trans h2)
      clear r2 h2 HW HC
      go_wp2
      go_roundw
      case rel => exact ⟨P', V2, V1, U' ++ S', by rw [show V2.length = U'.length by have := HE.out; omega], by rw [show (V1.length : Int) = (V'.length : Int) - U'.length by have := HE.out; omega], by have := HE.out; omega, by have := HE.out; omega, by have := HE.out; have := HM.out; omega, by simpa using HR2.out, by rw [← HT.out, HE.out.1]; simp, HW2.out⟩
      case measure => simp [intOf]; omega
    · have hM' := HM.out.1
      have hl := HM.out.2
      have d0 : ((U'.length : Int) == (V'.length : Int)) = true := beq_iff_eq.2 (by omega)
      have d1 : ((U'.length : Int) != (V'.length : Int)) = false := by rw [bne, d0]; rfl
      have C := swapRange wr g n cap P' U' [] V' S' ((M : Int) - U'.length) M U'.length f (by simpa using HR.out) (by omega) rfl (by omega) (by simp; omega) hn
      have HC := Lib.hid C
      have k1 : (0 : Int) ≤ (M : Int) - U'.length := by omega
      clear C HR hM' hl heq
      go_wp2_with fail
      refine HC.out.mono ?_
      rintro e w2 ⟨rfl, r2, h2⟩
      have HR2 := Lib.hid (show IRow w2 g n cap T by rw [← HT.out]; simpa using r2)
      have HW2 := Lib.hid (HW.out.trans h2)
      clear r2 h2 HW HC
      go_wp2
      go_end0
      exact ⟨rfl, HR2.out, HW2.out⟩
    · have hM' := HM.out.1
      have hl := HM.out.2
      obtain ⟨U1, U2, e1, l1, l2⟩ := front_of (l := U') (k := V'.length) (by omega)
      have d0 : ((U'.length : Int) == (V'.length : Int)) = false := beq_eq_false_iff_ne.2 (by omega)
      have d1 : ((U'.length : Int) != (V'.length : Int)) = true := bne_iff_ne.2 (by omega)
      have d2 : (V'.length : Int) < (U'.length : Int) := by omega
      have C := swapRange wr g n cap P' U1 U2 V' S' ((M : Int) - U'.length) M V'.length f (by have := HR.out; rw [e1] at this; simpa using this) (by omega) (by omega) (by omega) (by omega) hn
      have HC := Lib.hid C
      have HE := Lib.hid (And.intro e1 (And.intro l1 l2))
      have k1 : (0 : Int) ≤ (M : Int) - U'.length := by omega
      clear C e1 l1 l2 HR hM' hl
      go_wp2_with fail
      refine HC.out.mono ?_
      rintro e w2 ⟨rfl, r2, h2⟩
      have HR2 := Lib.hid r2
      have HW2 := Lib.hid (HW.out.trans h2)
      clear r2 h2 HW HC
      go_wp2
      go_roundw
      case rel => exact ⟨P' ++ V', U2, U1, S', by rw [show (U2.length : Int) = (U'.length : Int) - V'.length by have := HE.out; omega], by rw [show U1.length = V'.length by have := HE.out; omega], by have := HE.out; omega, by have := HE.out; omega, by have := HE.out; have := HM.out; simp; omega, by simpa using HR2.out, by rw [← HT.out, HE.out.1]; simp, HW2.out⟩
      case measure => simp [intOf]; omega

end Go.Proofs.Ytejnadokjnfagaa
