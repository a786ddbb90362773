/-
  What Copy of package ring does, at every deque and at nil. Conditions: a deque as Rng says.
-/
import Derived.Test.YthjcfeljbmehmaaRngAt
namespace Go.Proofs.Ythjcfeljbmehmaa
open Go.RowKit

section
variable {w a b : World} {F G : Nat → Prop} {p : Nat} {most : Int} {zs : List Int}
theorem Rng.mono (h : Rng w F p most zs) (hFG : ∀ g, F g → G g) (hG : ∀ g, G g → g < w.heap.size) : Rng w G p most zs := by
  obtain ⟨g, ds, f, h1, h2, h3, h4, h5, h6, h7⟩ := h
  exact ⟨g, ds, f, h1, h2, h3, h4, hFG _ h5, hFG _ h6, hG⟩

/-- What holds at each round's head of Copy. -/
def CopyRel (w : World) (q : Nat) (most : Int) (zs : List Int) (K n : Nat) (i : Value) (wr : World) : Prop :=
  ∃ (k : Nat) (F' : Nat → Prop), k ≤ n ∧ i = .int .i64 k ∧ At w F' q most (zs.take k) wr ∧ Beside F' wr (some ⟨K, 0, none⟩) n zs

theorem copied_at {wr : World} {q : Nat} (h : At w F q most zs wr) : Copied w most zs (.returned (.pointer (some ⟨q, 0, none⟩))) wr :=
  ⟨q, rfl, h.1.mono (fun g hg => ⟨h.2.2 g hg, h.lt g hg⟩) (fun _ hg => hg.2), h.2.1⟩

set_option maxHeartbeats 3200000 in
theorem copyAny (h : Rng w F p most zs) :
    Calls Try.prog 22 #[.pointer (some ⟨p, 0, none⟩)] w (Copied w most zs) := by
  have M := mostAny h
  have s0 := h.s0
  have s1 := h.s1
  obtain ⟨n, hn⟩ : ∃ n, zs.length = n := ⟨_, rfl⟩
  have hr : (n : Int) ≤ most := by have := h.room; omega
  have HN := Lib.hid hn
  have H := Lib.hid h
  clear h hn
  go_enter Try.func22, Try.ntmps22
  go_wp2_with fail
  refine M.mono ?_
  clear M
  rintro e w' ⟨rfl, rfl⟩
  go_wp2_with fail
  refine (newAny most w).mono ?_
  rintro e w1 ⟨q, rfl, n1, b1⟩
  rw [mostOf_self most s0 s1] at n1
  have HA := Lib.hid (At.new n1 b1)
  have C := itemsAny (H.out.fresh b1)
  clear n1 b1
  go_wp2_with fail
  refine C.mono ?_
  clear C
  rintro e w2 ht
  have hb := beside_told HA.out.1.foot ht
  have HA2 := Lib.hid (HA.out.fresh ht.2.2)
  obtain ⟨rfl, _, _⟩ := ht
  rw [HN.out] at hb ⊢
  have HS := Lib.hid (show CopyRel w q most zs w1.heap.size n (.int .i64 0) w2 from ⟨0, _, Nat.zero_le _, rfl, by simpa using HA2.out, hb⟩)
  clear hb HA HA2
  generalize w1.heap.size = K at *
  go_wp2
  go_loopw [12] (fun i wr => CopyRel w q most zs K n i wr) (fun i _ => n - (intOf i).toNat)
  case atStart => exact HS.out
  case round =>
    obtain ⟨k, F', hk, rfl, ha, hbs⟩ := hrel
    have HA := Lib.hid ha
    have HB := Lib.hid hbs
    clear ha hbs HS
    by_cases hlt : k < n
    · obtain ⟨b, off, e1, bl, hc⟩ := HB.out.1.2 (by omega)
      simp only [Option.some.injEq, Addr.mk.injEq, and_true] at e1
      obtain ⟨rfl, rfl⟩ := e1
      have c := hc k hlt
      have hkl : (zs.take k).length = k := by rw [List.length_take, HN.out]; omega
      have C := pushROk HA.out.1 (zs.getD k 0) (by rw [hkl]; omega)
      rw [show zs.take k ++ [zs.getD k 0] = zs.take (k + 1) by rw [List.take_succ_eq_append_getElem (by rw [HN.out]; exact hlt)]; simp [List.getD, show k < zs.length by rw [HN.out]; exact hlt]] at C
      have i0 : (k : Int) < n := by omega
      simp only [Nat.zero_add] at c
      clear hc hkl bl
      generalize zs.getD k 0 = y at *
      go_wp2_with fail
      refine C.mono ?_
      clear C
      rintro e w3 ⟨rfl, d3⟩
      obtain ⟨F3, a3, wr3, l3⟩ := HA.out.next d3
      have H3 := Lib.hid (show CopyRel w q most zs K n (.int .i64 ((k : Int) + 1)) w3 from ⟨k + 1, F3, by omega, by go_num, a3, HB.out.off wr3 l3⟩)
      clear d3 a3 wr3 l3 c
      go_wp2
      go_roundw
      case rel => exact H3.out
      case measure => simp [intOf]; omega
    · obtain rfl : k = n := by omega
      have HD := Lib.hid (show At w F' q most zs wr by have := HA.out; rwa [List.take_of_length_le (by rw [HN.out]; exact Nat.le_refl _)] at this)
      clear HA HB
      go_wp2
      go_ret
      exact copied_at HD.out

set_option maxHeartbeats 3200000 in
theorem copyNil (w : World) :
    Calls Try.prog 22 #[.pointer none] w (Copied w 0 []) := by
  go_enter Try.func22, Try.ntmps22
  go_wp2_with fail
  refine (mostNil _).mono ?_
  rintro e w' ⟨rfl, rfl⟩
  go_wp2_with fail
  refine (newAny 0 w).mono ?_
  rintro e w1 ⟨q, rfl, n1, b1⟩
  rw [mostOf_self 0 (by omega) (by omega)] at n1
  have HA := Lib.hid (At.new n1 b1)
  clear n1 b1
  go_wp2_with fail
  refine (itemsNil _).mono ?_
  rintro e w' ⟨rfl, rfl⟩
  go_wp2
  go_loopw [12] (fun i wr => i = .int .i64 0 ∧ At w (New w w1) q 0 [] wr) (fun _ _ => 0)
  case atStart => exact ⟨rfl, HA.out⟩
  case round =>
    obtain ⟨rfl, ha⟩ := hrel
    have HA := Lib.hid ha
    clear ha
    go_wp2
    go_ret
    exact copied_at HA.out
end

end Go.Proofs.Ythjcfeljbmehmaa
