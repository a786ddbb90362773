/-
  The walk of the law ScriptAsks: whatever bytes, entries, numbers, threads and operations there are, it returns true. Conditions: the lists' lengths are below 2^47, the numbers are of their kinds.
-/
import Derived.Test.YtblkkafilabbkaaKnown
import Derived.Test.YtblkkafilabbkaaRefEnc
import Derived.Laws.BytesArg
namespace Go.Proofs.Ytblkkafilabbkaa
open Go.RowKit

/-- A slice of bytes as a string. -/
theorem conv_reads {w : World} {ao : Option Addr} {n c : Nat} {zs : List Int} (h : Reads .u8 w ao n zs) : (convert 22 9 (.slice ao n c)).run Try.prog w = .ok (.string (strOfNums zs)) w := by
  rcases Nat.eq_zero_or_pos n with h0 | h0
  · subst h0
    have hz : zs = [] := List.eq_nil_of_length_eq_zero h.1
    subst hz
    rw [run_convert_bytes_string w 22 9 5 ao 0 c Try.underlying22 Try.underlying5 Try.underlying9]
    cases ao with
    | none => simp [Conv.bytesToString]; rfl
    | some a =>
      rw [run_bytesToString w a 0 c [] (by simp [loadCells, loadCellsFrom])]
      rfl
  · obtain ⟨b, off, rfl, _, hc⟩ := h.2 h0
    exact run_convert_bytes_arg w 22 5 Try.underlying22 Try.underlying5 b off n c zs h.1 hc 9 Try.underlying9

set_option maxRecDepth 100000 in
set_option maxHeartbeats 8000000 in
theorem asksWalk (a0 : Option Addr) (len0 cap0 : Nat) (z0 : List Int) (a1 : Option Addr) (len1 cap1 : Nat) (z1 : List Ent) (n m k j : Int) (a6 : Option Addr) (len6 cap6 : Nat) (z6 : List Int) (a7 : Option Addr) (len7 cap7 : Nat) (z7 : List (Int × Int)) {w : World}
    (h0 : ArgBytes w a0 len0 cap0 z0) (r0 : len0 ≤ 140737488351232) (h1 : ArgEnts w a1 len1 cap1 z1) (r1 : len1 ≤ 140737488351232) (n0 : -9223372036854775808 ≤ n) (n1 : n ≤ 9223372036854775807) (m0 : -9223372036854775808 ≤ m) (m1 : m ≤ 9223372036854775807)
    (k0 : 0 ≤ k) (k1 : k ≤ 255) (j0 : 0 ≤ j) (j1 : j ≤ 255) (h6 : ArgInts w a6 len6 cap6 z6) (r6 : len6 ≤ 140737488351232) (h7 : ArgOps w a7 len7 cap7 z7) (r7 : len7 ≤ 140737488351232) :
    Calls Try.prog 3 #[.slice a0 len0 cap0, .slice a1 len1 cap1, .int .i64 n, .int .i64 m, .int .u8 k, .int .u8 j, .slice a6 len6 cap6, .slice a7 len7 cap7] w fun e w' => e = .returned (.bool true) ∧ Below w.heap.size w w' := by
  by_cases hbig : 400 < len0 + len1 + len6 + len7
  · have hbd : decide ((400 : Int) < (len0 : Int) + len1 + len6 + len7) = true := by simp; omega
    clear h0 h1 h6 h7
    go_enter Try.func3, Try.ntmps3
    go_wp2_with fail
    refine (knownAny _).mono ?_
    rintro e w3 ⟨rfl, b3⟩
    have B3 := Lib.hid b3
    clear b3
    go_wp2
    go_ret
    exact ⟨rfl, B3.out⟩
  · have hbd : decide ((400 : Int) < (len0 : Int) + len1 + len6 + len7) = false := by simp; omega
    have H0 := Lib.hid h0.1
    have H0b := Lib.hid h0.2.2.2
    have H0l := Lib.hid h0.1.1
    have c0 := h0.2.1
    have H1 := Lib.hid h1.1
    have H1l := Lib.hid h1.1.1
    have H1o := Lib.hid h1.2.2.2
    have H6 := Lib.hid h6.1
    have H7 := Lib.hid h7.1
    clear h0 h1 h6 h7
    go_enter Try.func3, Try.ntmps3
    go_wp2_with fail
    refine (knownAny _).mono ?_
    rintro e w1 ⟨rfl, b1⟩
    have B1 := Lib.hid b1
    clear b1
    go_wp2_with fail
    refine (encodeAny _ a1 len1 cap1 z1 (H1.out.keep B1.out) H1o.out (by omega)).mono ?_
    rintro e w2 (⟨hg, ao2, cap2, rfl, rd2, le2, b2⟩ | ⟨hbad, rfl, b2⟩)
    · have B2 := Lib.hid (B1.out.trans (b2.mono B1.out.size))
      have HG := Lib.hid hg
      have R2 := Lib.hid rd2
      clear hg rd2 b2
      rw [H1l.out] at R2 ⊢
      go_wp2_with fail
      refine (refEncode _ a1 len1 cap1 z1 (H1.out.keep B2.out) H1o.out (by omega)).mono ?_
      rintro e w3 (⟨hg3, ao3, cap3, rfl, rd3, le3, b3⟩ | ⟨hbad3, rfl, b3⟩)
      · have B3 := Lib.hid (B2.out.trans (b3.mono B2.out.size))
        rw [H1l.out] at rd3 ⊢
        have v1 := conv_reads (c := cap2) (R2.out.keep b3)
        have v2 := conv_reads (c := cap3) rd3
        clear b3 rd3 hg3
        go_upto_region 6 with (fail)
        clear v1 v2
        go_wp2_with fail
        refine (decodeAny _ a0 len0 cap0 z0 (H0.out.keep B3.out) H0b.out (by omega) c0).mono ?_
        rintro e w4 ⟨a4', n4', c4', rfl, s4, b4⟩
        have S4 := Lib.hid s4
        have E4 := Lib.hid b4
        have B4 := Lib.hid (B3.out.trans (b4.mono B3.out.size))
        have l4' : n4' ≤ 1000 := by have := s4.1; rw [decL_length, H0l.out] at this; omega
        clear s4 b4
        go_wp2_with fail
        refine (refDecode _ a0 len0 cap0 z0 (H0.out.keep B4.out) H0b.out (by omega)).mono ?_
        rintro e w5 ⟨a5', n5', c5', rfl, s5, b5⟩
        have S5 := Lib.hid s5
        have E5 := Lib.hid b5
        have B5 := Lib.hid (B4.out.trans (b5.mono B4.out.size))
        have l5' : n5' ≤ 1000 := by have := s5.1; rw [decL_length, H0l.out] at this; omega
        clear s5 b5
        go_wp2_with fail
        refine (sameAny _ _ _ _ _ _ _ _ _ (S4.out.keep E5.out) S5.out (by omega) (by omega)).mono ?_
        rintro e w6 ⟨rfl, b6⟩
        have B6 := Lib.hid (B5.out.trans (b6.mono B5.out.size))
        clear b6
        rw [decide_eq_true rfl]
        go_wp2_with fail
        refine (roundsLaw _ n m n0 n1 m0 m1).mono ?_
        rintro e w7 ⟨rfl, b7⟩
        have B7 := Lib.hid (B6.out.trans (b7.mono B6.out.size))
        clear b7
        go_wp2_with fail
        refine (roundsLaw _ (k % 70) j (by omega) (by omega) (by omega) (by omega)).mono ?_
        rintro e w8 ⟨rfl, b8⟩
        have B8 := Lib.hid (B7.out.trans (b8.mono B7.out.size))
        clear b8
        go_wp2_with fail
        refine (roundsLaw _ k m (by omega) (by omega) m0 m1).mono ?_
        rintro e w9 ⟨rfl, b9⟩
        have B9 := Lib.hid (B8.out.trans (b9.mono B8.out.size))
        clear b9
        go_wp2_with fail
        refine (picksAny _ _ _ _ _ (H1.out.keep B9.out) (by omega)).mono ?_
        rintro e w10 ⟨rfl, b10⟩
        have B10 := Lib.hid (B9.out.trans (b10.mono B9.out.size))
        clear b10
        go_wp2_with fail
        refine (refPicks _ _ _ _ _ (H1.out.keep B10.out) (by omega)).mono ?_
        rintro e w11 ⟨rfl, b11⟩
        have B11 := Lib.hid (B10.out.trans (b11.mono B10.out.size))
        clear b11
        go_wp2_with fail
        refine (callsAny _ a6 a7 len6 len7 cap6 cap7 z6 z7 (H6.out.keep B11.out) (H7.out.keep B11.out) (by omega) (by omega) (min len6 len7) rfl).mono ?_
        rintro e w12 ⟨a12', n12', c12', rfl, s12, b12⟩
        have S12 := Lib.hid s12
        have E12 := Lib.hid b12
        have B12 := Lib.hid (B11.out.trans (b12.mono B11.out.size))
        have l12' : n12' ≤ 1000 := by have := s12.1; rw [callL_length] at this; omega
        clear s12 b12
        go_wp2_with fail
        refine (refCalls _ a6 a7 len6 len7 cap6 cap7 z6 z7 (H6.out.keep B12.out) (H7.out.keep B12.out) (by omega) (by omega) (min len6 len7) rfl).mono ?_
        rintro e w13 ⟨a13', n13', c13', rfl, s13, b13⟩
        have S13 := Lib.hid s13
        have E13 := Lib.hid b13
        have B13 := Lib.hid (B12.out.trans (b13.mono B12.out.size))
        have l13' : n13' ≤ 1000 := by have := s13.1; rw [callL_length] at this; omega
        clear s13 b13
        go_wp2_with fail
        refine (sameAny _ _ _ _ _ _ _ _ _ (S12.out.keep E13.out) S13.out (by omega) (by omega)).mono ?_
        rintro e w14 ⟨rfl, b14⟩
        have B14 := Lib.hid (B13.out.trans (b14.mono B13.out.size))
        clear b14
        rw [decide_eq_true rfl]
        go_wp2
        go_ret
        exact ⟨rfl, B14.out⟩
      · rw [HG.out] at hbad3
        cases hbad3
    · have B2 := Lib.hid (B1.out.trans (b2.mono B1.out.size))
      have HG := Lib.hid hbad
      clear hbad b2
      go_wp2_with fail
      refine (refEncode _ a1 len1 cap1 z1 (H1.out.keep B2.out) H1o.out (by omega)).mono ?_
      rintro e w3 (⟨hg3, ao3, cap3, rfl, rd3, le3, b3⟩ | ⟨hbad3, rfl, b3⟩)
      · rw [HG.out] at hg3
        cases hg3
      · have B3 := Lib.hid (B2.out.trans (b3.mono B2.out.size))
        have v1 := conv_reads (w := w3) (ao := none) (n := 0) (c := 0) (zs := []) ⟨rfl, fun h => by omega⟩
        clear b3 hbad3
        go_upto_region 6 with (fail)
        clear v1
        go_wp2_with fail
        refine (decodeAny _ a0 len0 cap0 z0 (H0.out.keep B3.out) H0b.out (by omega) c0).mono ?_
        rintro e w4 ⟨a4', n4', c4', rfl, s4, b4⟩
        have S4 := Lib.hid s4
        have E4 := Lib.hid b4
        have B4 := Lib.hid (B3.out.trans (b4.mono B3.out.size))
        have l4' : n4' ≤ 1000 := by have := s4.1; rw [decL_length, H0l.out] at this; omega
        clear s4 b4
        go_wp2_with fail
        refine (refDecode _ a0 len0 cap0 z0 (H0.out.keep B4.out) H0b.out (by omega)).mono ?_
        rintro e w5 ⟨a5', n5', c5', rfl, s5, b5⟩
        have S5 := Lib.hid s5
        have E5 := Lib.hid b5
        have B5 := Lib.hid (B4.out.trans (b5.mono B4.out.size))
        have l5' : n5' ≤ 1000 := by have := s5.1; rw [decL_length, H0l.out] at this; omega
        clear s5 b5
        go_wp2_with fail
        refine (sameAny _ _ _ _ _ _ _ _ _ (S4.out.keep E5.out) S5.out (by omega) (by omega)).mono ?_
        rintro e w6 ⟨rfl, b6⟩
        have B6 := Lib.hid (B5.out.trans (b6.mono B5.out.size))
        clear b6
        rw [decide_eq_true rfl]
        go_wp2_with fail
        refine (roundsLaw _ n m n0 n1 m0 m1).mono ?_
        rintro e w7 ⟨rfl, b7⟩
        have B7 := Lib.hid (B6.out.trans (b7.mono B6.out.size))
        clear b7
        go_wp2_with fail
        refine (roundsLaw _ (k % 70) j (by omega) (by omega) (by omega) (by omega)).mono ?_
        rintro e w8 ⟨rfl, b8⟩
        have B8 := Lib.hid (B7.out.trans (b8.mono B7.out.size))
        clear b8
        go_wp2_with fail
        refine (roundsLaw _ k m (by omega) (by omega) m0 m1).mono ?_
        rintro e w9 ⟨rfl, b9⟩
        have B9 := Lib.hid (B8.out.trans (b9.mono B8.out.size))
        clear b9
        go_wp2_with fail
        refine (picksAny _ _ _ _ _ (H1.out.keep B9.out) (by omega)).mono ?_
        rintro e w10 ⟨rfl, b10⟩
        have B10 := Lib.hid (B9.out.trans (b10.mono B9.out.size))
        clear b10
        go_wp2_with fail
        refine (refPicks _ _ _ _ _ (H1.out.keep B10.out) (by omega)).mono ?_
        rintro e w11 ⟨rfl, b11⟩
        have B11 := Lib.hid (B10.out.trans (b11.mono B10.out.size))
        clear b11
        go_wp2_with fail
        refine (callsAny _ a6 a7 len6 len7 cap6 cap7 z6 z7 (H6.out.keep B11.out) (H7.out.keep B11.out) (by omega) (by omega) (min len6 len7) rfl).mono ?_
        rintro e w12 ⟨a12', n12', c12', rfl, s12, b12⟩
        have S12 := Lib.hid s12
        have E12 := Lib.hid b12
        have B12 := Lib.hid (B11.out.trans (b12.mono B11.out.size))
        have l12' : n12' ≤ 1000 := by have := s12.1; rw [callL_length] at this; omega
        clear s12 b12
        go_wp2_with fail
        refine (refCalls _ a6 a7 len6 len7 cap6 cap7 z6 z7 (H6.out.keep B12.out) (H7.out.keep B12.out) (by omega) (by omega) (min len6 len7) rfl).mono ?_
        rintro e w13 ⟨a13', n13', c13', rfl, s13, b13⟩
        have S13 := Lib.hid s13
        have E13 := Lib.hid b13
        have B13 := Lib.hid (B12.out.trans (b13.mono B12.out.size))
        have l13' : n13' ≤ 1000 := by have := s13.1; rw [callL_length] at this; omega
        clear s13 b13
        go_wp2_with fail
        refine (sameAny _ _ _ _ _ _ _ _ _ (S12.out.keep E13.out) S13.out (by omega) (by omega)).mono ?_
        rintro e w14 ⟨rfl, b14⟩
        have B14 := Lib.hid (B13.out.trans (b14.mono B13.out.size))
        clear b14
        rw [decide_eq_true rfl]
        go_wp2
        go_ret
        exact ⟨rfl, B14.out⟩

end Go.Proofs.Ytblkkafilabbkaa
