/-
  The walk of the law ScriptCalls: whatever two lists there are, it returns true. Conditions: the lists' lengths are below 2^47.
-/
import Derived.Test.YtblkkafilabbkaaKnown
import Derived.Test.YtblkkafilabbkaaArgs3
namespace Go.Proofs.Ytblkkafilabbkaa
open Go.RowKit

theorem picks_none (ts : List Int) (os : List (Int × Int)) (k : Nat) : picksN (callL ts os k) = 0 := by
  rw [picksN, List.countP_eq_zero]
  intro e he
  simp only [callL, List.mem_map] at he
  obtain ⟨i, _, rfl⟩ := he
  simp [callE]

set_option maxRecDepth 100000 in
set_option maxHeartbeats 4000000 in
theorem callsWalk (a0 : Option Addr) (len0 cap0 : Nat) (z0 : List Int) (a1 : Option Addr) (len1 cap1 : Nat) (z1 : List (Int × Int)) {w : World} (h0 : ArgInts w a0 len0 cap0 z0) (r0 : len0 ≤ 140737488351232) (h1 : ArgOps w a1 len1 cap1 z1) (r1 : len1 ≤ 140737488351232) :
    Calls Try.prog 7 #[.slice a0 len0 cap0, .slice a1 len1 cap1] w fun e w' => e = .returned (.bool true) ∧ Below w.heap.size w w' := by
  have HT := Lib.hid h0.1
  have HO := Lib.hid h1.1
  clear h0 h1
  by_cases hbig : 200 < len0 + len1
  · go_enter Try.func7, Try.ntmps7
    go_wp2_with fail
    refine (knownAny _).mono ?_
    rintro e w3 ⟨rfl, b3⟩
    have B3 := Lib.hid b3
    clear b3
    go_wp2
    go_ret
    exact ⟨rfl, B3.out⟩
  · obtain ⟨q, hq⟩ : ∃ q, q = min len0 len1 := ⟨_, rfl⟩
    have HQ := Lib.hid hq
    have HM := Lib.hid (show (if len1 < len0 then (len1 : Int) else len0) = (q : Int) by split <;> omega)
    have q0 : q ≤ len0 := by omega
    have q1 : q ≤ len1 := by omega
    clear hq
    go_enter Try.func7, Try.ntmps7
    go_wp2_with fail
    refine (callsAny _ _ _ _ _ _ _ _ _ HT.out HO.out (by omega) (by omega) q HQ.out).mono ?_
    rintro e w1 ⟨a2, n2, c2, rfl, s2, b2⟩
    obtain rfl : n2 = q := by have := s2.1; rw [callL_length] at this; omega
    have S1 := Lib.hid s2
    have B1 := Lib.hid b2
    clear s2 b2
    have hm := HM.out
    go_wp2_with fail
    clear hm
    go_loopw [6] (fun i wr => ∃ k : Nat, k ≤ n2 ∧ i = .int .i64 k ∧ Below w1.heap.size w1 wr) (fun i _ => n2 - (intOf i).toNat)
    case atStart => exact ⟨0, Nat.zero_le _, rfl, Below.refl _ _⟩
    case round =>
      obtain ⟨k, hk, rfl, hbe⟩ := hrel
      have HE := Lib.hid hbe
      by_cases hlt : k < n2
      · obtain ⟨g, off, rfl, l1, hh1⟩ := (S1.out.keep hbe).2 (by omega)
        obtain ⟨d1, d2, d3, d4, d5⟩ := hh1 k hlt
        have hget : (callL z0 z1 n2).getD k default = callE z0 z1 k := by simp [callL, List.getD, hlt]
        rw [hget] at d1 d2 d3 d4 d5
        obtain ⟨g1, o1, rfl, l2, hh2⟩ := ((HT.out.keep B1.out).keep hbe).2 (by omega)
        obtain ⟨g2, o2, rfl, l3, hh3⟩ := ((HO.out.keep B1.out).keep hbe).2 (by omega)
        have t1 := hh2 k (by omega)
        obtain ⟨u1, u2⟩ := hh3 k (by omega)
        simp only [callE] at d1 d2 d3 d4 d5
        clear hh1 hh2 hh3 hbe hget
        have i0 : (k : Int) < n2 := by omega
        have i1 : (k : Int) < len0 := by omega
        have i2 : (k : Int) < len1 := by omega
        generalize z0.getD k 0 = y0 at *
        generalize z1.getD k (0, 0) = y1 at *
        have hq := @eqEnt
        have hqt : ∀ X Y Z : Int, entEq 1 X Y Z 0 1 X Y Z 0 = true := fun X Y Z => by simp [entEq]
        go_wp2
        go_quiet (fail)
        go_wp2
        go_roundw
        case rel => exact ⟨k + 1, by omega, by go_num, below_drewN HE.out _⟩
        case measure => simp [intOf]; omega
      · have S2 := Lib.hid (S1.out.keep hbe)
        have B2 := Lib.hid (B1.out.trans (hbe.mono B1.out.size))
        clear hbe HE
        go_wp2_with fail
        refine (knownAny _).mono ?_
        rintro e w3 ⟨rfl, b3⟩
        have S3 := Lib.hid (S2.out.keep b3)
        have B3 := Lib.hid (B2.out.trans (b3.mono B2.out.size))
        clear b3
        go_wp2_with fail
        refine (picksAny _ _ _ _ _ S3.out (by omega)).mono ?_
        rintro e w4 ⟨rfl, b4⟩
        have B4 := Lib.hid (B3.out.trans (b4.mono B3.out.size))
        clear b4
        rw [picks_none]
        go_wp2_with fail
        refine (callsAny _ a0 none len0 0 cap0 0 z0 [] (HT.out.keep B4.out) ⟨rfl, fun h => by omega⟩ (by omega) (by omega) 0 (by simp)).mono ?_
        rintro e w5 ⟨a5, n5, c5, rfl, q5, b5⟩
        have B5 := Lib.hid (B4.out.trans (b5.mono B4.out.size))
        obtain rfl : n5 = 0 := by have := q5.1; rw [callL_length] at this; omega
        clear b5 q5
        go_wp2
        go_ret
        exact ⟨rfl, B5.out⟩

end Go.Proofs.Ytblkkafilabbkaa
