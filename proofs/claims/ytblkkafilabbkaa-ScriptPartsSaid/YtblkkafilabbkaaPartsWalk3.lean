/-
  The walk of the law ScriptParts: whatever two lists of bytes there are, it returns true. Conditions: the lists' lengths are below 2^47.
-/
import Derived.Test.YtblkkafilabbkaaKnown
import Derived.Test.YtblkkafilabbkaaAppend
namespace Go.Proofs.Ytblkkafilabbkaa
open Go.RowKit

theorem both_bytes {xs ys : List Int} (hx : ∀ z ∈ xs, 0 ≤ z ∧ z ≤ 255) (hy : ∀ z ∈ ys, 0 ≤ z ∧ z ≤ 255) : ∀ z ∈ xs ++ ys, 0 ≤ z ∧ z ≤ 255 := by
  intro z hz
  rcases List.mem_append.1 hz with h | h
  · exact hx z h
  · exact hy z h

set_option maxRecDepth 100000 in
set_option maxHeartbeats 4000000 in
theorem partsWalk (a0 : Option Addr) (len0 cap0 : Nat) (z0 : List Int) (a1 : Option Addr) (len1 cap1 : Nat) (z1 : List Int) {w : World} (h0 : ArgBytes w a0 len0 cap0 z0) (r0 : len0 ≤ 140737488351232) (h1 : ArgBytes w a1 len1 cap1 z1) (r1 : len1 ≤ 140737488351232) :
    Calls Try.prog 5 #[.slice a0 len0 cap0, .slice a1 len1 cap1] w fun e w' => e = .returned (.bool true) ∧ Below w.heap.size w w' := by
  by_cases hbig : 400 < len0 + len1
  · clear h0 h1
    go_enter Try.func5, Try.ntmps5
    go_wp2_with fail
    refine (knownAny _).mono ?_
    rintro e w3 ⟨rfl, b3⟩
    have B3 := Lib.hid b3
    clear b3
    go_wp2
    go_ret
    exact ⟨rfl, B3.out⟩
  · obtain ⟨iB, hiB, hB0, hB1, hB2⟩ := info_parts infoB
    obtain ⟨iE, hiE, hE0, hE1, hE2⟩ := info_parts infoE
    obtain ⟨q, hq⟩ : ∃ q, q = len0 / 4 := ⟨_, rfl⟩
    have q1 : 4 * q ≤ len0 := by omega
    have q2 : 4 * q ≤ cap0 := by have := h0.2.1; omega
    have HQ := Lib.hid (show (len0 : Int) / 4 * 4 = ((4 * q : Nat) : Int) by omega)
    have HF := Lib.hid (show Reads .u8 w a0 (4 * q) (z0.take (4 * q)) from front h0.1 q1)
    have HFb := Lib.hid (show ∀ z ∈ z0.take (4 * q), 0 ≤ z ∧ z ≤ 255 from fun z hz => h0.2.2.2 z (List.mem_of_mem_take hz))
    have H1 := Lib.hid h1.1
    have H1b := Lib.hid h1.2.2.2
    have c1 := h1.2.1
    clear h0 h1 hq
    go_enter Try.func5, Try.ntmps5
    go_upto_region 3 with (fail)
    have hq := HQ.out
    go_upto_region 4 with (fail)
    clear hq
    have HFl := Lib.hid HF.out.1
    have H1l := Lib.hid H1.out.1
    go_wp2_with (first
      | (at_builtin; refine wpList_append_src _ rfl (.tmp 21) (.tmp 22) 22 rfl w.heap.size 5 iB _ 1 1 Try.underlying22 hiB hB0 hB1 hB2 rfl (by decide) (.slice none 0 0) 0 [] rfl (World.ownsRow_nil _ _ _ _) a0 (4 * q) cap0 ((z0.take (4 * q)).map (Value.int .u8)) rfl (by rw [List.length_map, HFl.out]; omega) (reads_src HF.out) (bytes_one _) (by simp only [maxLen]; omega) (by omega) (Nat.le_refl _) ?_
         intro v1 w1 o1 g1
         have O1 := Lib.hid o1
         have B1 := Lib.hid ((Below.refl w.heap.size w).grown g1 (Nat.le_refl _) (by simp [Value.ownBlock]))
         clear o1 g1)
      | (at_builtin; refine wpList_append_src _ rfl (.tmp 24) (.tmp 25) 22 rfl w.heap.size 5 iB _ 1 1 Try.underlying22 hiB hB0 hB1 hB2 rfl (by decide) v1 (0 + 4 * q) _ rfl O1.out a1 len1 cap1 (z1.map (Value.int .u8)) rfl (by rw [List.length_map, H1l.out]; omega) (reads_src (H1.out.keep B1.out)) (bytes_one _) (by simp only [maxLen]; omega) (by omega) B1.out.size ?_
         intro v2 w2 o2 g2
         have O2 := Lib.hid o2
         have B2 := Lib.hid (B1.out.grown g2 B1.out.size (fun k e => (O1.out.lt k e).1))
         clear o2 g2))
    obtain ⟨ao2, cap2, rfl, R2, le2⟩ := bytes_own (zs := z0.take (4 * q) ++ z1) (by rw [List.map_append]; simpa using O2.out)
    have HR2 := Lib.hid R2
    clear R2 O2 O1 B1
    refine (decodeAny _ a0 (4 * q) cap0 _ (HF.out.keep B2.out) HFb.out (by omega) q2).mono ?_
    rintro e w3 ⟨a3, n3, c3, rfl, s3, b3⟩
    have S3 := Lib.hid s3
    have E3 := Lib.hid b3
    have N3 := Lib.hid (show n3 = q by have := s3.1; rw [decL_length, HFl.out] at this; omega)
    have n3l : n3 ≤ 400 := by rw [N3.out]; omega
    clear s3 b3
    go_wp2_with (at_builtin; refine wpList_append_src _ rfl (.tmp 27) (.tmp 29) 23 rfl w2.heap.size 46 iE _ 5 32 Try.underlying23 hiE hE0 hE1 hE2 rfl (by decide) (.slice none 0 0) 0 [] rfl (World.ownsRow_nil _ _ _ _) a3 n3 c3 (flat (decL (z0.take (4 * q)))) rfl (by rw [flat_length, S3.out.1]) (ents_src S3.out) (flat_one _) (by simp only [maxLen]; omega) (by omega) E3.out.size ?_
                 intro v4 w4 o4 g4
                 have O4 := Lib.hid o4
                 have E4 := Lib.hid (E3.out.grown g4 E3.out.size (by simp [Value.ownBlock]))
                 clear o4 g4)
    have B4 := Lib.hid (B2.out.trans (E4.out.mono B2.out.size))
    refine (decodeAny _ a1 len1 cap1 _ (H1.out.keep B4.out) H1b.out (by omega) c1).mono ?_
    rintro e w5 ⟨a5, n5, c5, rfl, s5, b5⟩
    have S5 := Lib.hid s5
    have E5 := Lib.hid (E4.out.trans (b5.mono E4.out.size))
    have O5 := Lib.hid (own_below O4.out b5)
    have N5 := Lib.hid (show n5 = len1 / 4 by have := s5.1; rw [decL_length, H1l.out] at this; omega)
    have n5l : n5 ≤ 400 := by rw [N5.out]; omega
    clear s5 b5 O4
    go_wp2_with (at_builtin; refine wpList_append_src _ rfl (.tmp 31) (.tmp 33) 23 rfl w2.heap.size 46 iE _ 5 32 Try.underlying23 hiE hE0 hE1 hE2 rfl (by decide) v4 (0 + n3) _ rfl O5.out a5 n5 c5 (flat (decL z1)) rfl (by rw [flat_length, S5.out.1]) (ents_src S5.out) (flat_one _) (by simp only [maxLen]; omega) (by omega) E5.out.size ?_
                 intro v6 w6 o6 g6
                 have O6 := Lib.hid o6
                 have E6 := Lib.hid (E5.out.grown g6 E5.out.size (fun k e => (O5.out.lt k e).1))
                 clear o6 g6)
    obtain ⟨a6, n6, c6, he6, s6, _⟩ := EntsNew.of_own (w := w6) (w' := w6) (base := w2.heap.size) (n := 0 + n3 + n5) (v := v6) (es := decL (z0.take (4 * q)) ++ decL z1) (by rw [flat_append]; simpa using O6.out) (Below.refl _ _)
    injection he6 with he6
    subst he6
    have S6 := Lib.hid s6
    have n6l : n6 ≤ 1000 := by have := s6.1; rw [List.length_append, S3.out.1, S5.out.1] at this; omega
    have B6 := Lib.hid (B2.out.trans (E6.out.mono B2.out.size))
    clear s6 O6 O5
    refine (knownAny _).mono ?_
    rintro e w7 ⟨rfl, b7⟩
    have S7 := Lib.hid (S6.out.keep b7)
    have E7 := Lib.hid (E6.out.trans (b7.mono E6.out.size))
    have B7 := Lib.hid (B6.out.trans (b7.mono B6.out.size))
    clear b7
    go_wp2_with fail
    refine (decodeAny _ ao2 (4 * q + len1) cap2 _ (HR2.out.keep E7.out) (both_bytes HFb.out H1b.out) (by omega) le2).mono ?_
    rintro e w8 ⟨a8, n8, c8, rfl, s8, b8⟩
    have S8 := Lib.hid s8
    have T8 := Lib.hid (S7.out.keep b8)
    have B8 := Lib.hid (B7.out.trans (b8.mono B7.out.size))
    have n8l : n8 ≤ 1000 := by have := s8.1; rw [decL_length, List.length_append, HFl.out, H1l.out] at this; omega
    clear s8 b8
    go_wp2_with fail
    refine (sameAny _ _ _ _ _ _ _ _ _ S8.out T8.out (by omega) (by omega)).mono ?_
    rintro e w9 ⟨rfl, b9⟩
    have T9 := Lib.hid (T8.out.keep b9)
    have B9 := Lib.hid (B8.out.trans (b9.mono B8.out.size))
    clear b9
    rw [decide_eq_true (decL_append (z0.take (4 * q)) z1 q HFl.out)]
    go_wp2_with fail
    refine (picksAny _ _ _ _ _ T9.out (by omega)).mono ?_
    rintro e w10 ⟨rfl, b10⟩
    have B10 := Lib.hid (B9.out.trans (b10.mono B9.out.size))
    clear b10
    go_wp2_with fail
    refine (decodeAny _ a0 (4 * q) cap0 _ (HF.out.keep B10.out) HFb.out (by omega) q2).mono ?_
    rintro e w11 ⟨a11, n11, c11, rfl, s11, b11⟩
    have S11 := Lib.hid s11
    have B11 := Lib.hid (B10.out.trans (b11.mono B10.out.size))
    have n11l : n11 ≤ 400 := by have := s11.1; rw [decL_length, HFl.out] at this; omega
    clear s11 b11
    go_wp2_with fail
    refine (picksAny _ _ _ _ _ S11.out (by omega)).mono ?_
    rintro e w12 ⟨rfl, b12⟩
    have B12 := Lib.hid (B11.out.trans (b12.mono B11.out.size))
    clear b12
    go_wp2_with fail
    refine (decodeAny _ a1 len1 cap1 _ (H1.out.keep B12.out) H1b.out (by omega) c1).mono ?_
    rintro e w13 ⟨a13, n13, c13, rfl, s13, b13⟩
    have S13 := Lib.hid s13
    have B13 := Lib.hid (B12.out.trans (b13.mono B12.out.size))
    have n13l : n13 ≤ 400 := by have := s13.1; rw [decL_length, H1l.out] at this; omega
    clear s13 b13
    go_wp2_with fail
    refine (picksAny _ _ _ _ _ S13.out (by omega)).mono ?_
    rintro e w14 ⟨rfl, b14⟩
    have B14 := Lib.hid (B13.out.trans (b14.mono B13.out.size))
    clear b14
    have p1 : picksN (decL (z0.take (4 * q))) ≤ 400 := Nat.le_trans (picksN_le _) (by rw [S11.out.1]; exact n11l)
    have p2 : picksN (decL z1) ≤ 400 := Nat.le_trans (picksN_le _) (by rw [S13.out.1]; exact n13l)
    rw [picksN_append]
    generalize picksN (decL (z0.take (4 * q))) = x1 at *
    generalize picksN (decL z1) = x2 at *
    go_wp2
    all_goals (go_ret; exact ⟨rfl, B14.out⟩)

end Go.Proofs.Ytblkkafilabbkaa
