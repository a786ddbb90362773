/-
  The walk of the law ScriptBack: whatever bytes and entries there are, it returns true. Conditions: the lists' lengths are below 2^47, the numbers are of their kinds.
-/
import Derived.Test.YtblkkafilabbkaaKnown
import Derived.Test.YtblkkafilabbkaaEncode
namespace Go.Proofs.Ytblkkafilabbkaa
open Go.RowKit

theorem decL_near (e : Ent) : decL (nearL e) = [decN (nearL e)] := by
  rw [decL, near_length]
  rfl

/-- What is encoded is decoded to the same. -/
theorem dec_enc : ∀ es : List Ent, es.all goodB = true → decL (encL es) = es
  | [], _ => rfl
  | e :: es, h => by
    simp only [List.all_cons, Bool.and_eq_true] at h
    rw [show encL (e :: es) = nearL e ++ encL es from rfl, decL_append _ _ 1 (by rw [near_length]), decL_near, dec_enc es h.2, of_decide_eq_true (show decide (decN (nearL e) = e) = true from h.1)]
    rfl

theorem dec_ok (x0 x1 x2 x3 : Int) (h1 : 0 ≤ x1 ∧ x1 ≤ 255) (h2 : 0 ≤ x2 ∧ x2 ≤ 255) (h3 : 0 ≤ x3 ∧ x3 ≤ 255) : (dec x0 x1 x2 x3).ok' ∧ goodB (dec x0 x1 x2 x3) = true := by
  by_cases e1 : x0 = 1
  · rw [dec_call _ _ _ _ e1]
    refine ⟨⟨by simp, by simp; omega, h2, by simp; omega, by simp⟩, decide_eq_true ?_⟩
    simp [decN, nearL, dec]
    omega
  · by_cases e2 : x0 = 2
    · rw [dec_pick _ _ _ _ e2]
      refine ⟨⟨by simp, by simp; omega, by simp, by simp, by simp⟩, decide_eq_true ?_⟩
      simp [decN, nearL, dec]
      omega
    · by_cases e3 : x0 = 3
      · rw [dec_draw _ _ _ _ e3]
        exact ⟨⟨by simp, by simp, by simp, by simp, h3⟩, decide_eq_true (by simp [decN, nearL, dec])⟩
      · rw [dec_else _ _ _ _ e1 e2 e3]
        exact ⟨⟨by simp, by simp, by simp, by simp, by simp⟩, decide_eq_true (by simp [decN, nearL, dec])⟩

theorem decAt_ok {zs : List Int} (h : ∀ z ∈ zs, 0 ≤ z ∧ z ≤ 255) (k : Nat) : (decAt zs k).ok' ∧ goodB (decAt zs k) = true :=
  dec_ok _ _ _ _ (byte_at h _) (byte_at h _) (byte_at h _)

theorem decL_ok {zs : List Int} (h : ∀ z ∈ zs, 0 ≤ z ∧ z ≤ 255) : (∀ e ∈ decL zs, e.ok') ∧ (decL zs).all goodB = true := by
  refine ⟨fun e he => ?_, ?_⟩
  · simp only [decL, List.mem_map] at he
    obtain ⟨k, _, rfl⟩ := he
    exact (decAt_ok h k).1
  · rw [List.all_eq_true]
    intro e he
    simp only [decL, List.mem_map] at he
    obtain ⟨k, _, rfl⟩ := he
    exact (decAt_ok h k).2

theorem enc_bytes {es : List Ent} (h : ∀ e ∈ es, e.ok') : ∀ z ∈ encL es, 0 ≤ z ∧ z ≤ 255 := by
  intro z hz
  simp only [encL, List.mem_flatMap] at hz
  obtain ⟨e, he, hz⟩ := hz
  obtain ⟨x0, x1, x2, x3, hx, p0, p1, p2, p3⟩ := near_four e (h e he)
  rw [hx] at hz
  simp only [List.mem_cons, List.not_mem_nil, or_false] at hz
  rcases hz with rfl | rfl | rfl | rfl <;> assumption

set_option maxRecDepth 100000 in
set_option maxHeartbeats 4000000 in
theorem backWalk (a0 : Option Addr) (len0 cap0 : Nat) (z0 : List Int) (a1 : Option Addr) (len1 cap1 : Nat) (z1 : List Ent) {w : World} (h0 : ArgBytes w a0 len0 cap0 z0) (r0 : len0 ≤ 140737488351232) (h1 : ArgEnts w a1 len1 cap1 z1) (r1 : len1 ≤ 140737488351232) :
    Calls Try.prog 4 #[.slice a0 len0 cap0, .slice a1 len1 cap1] w fun e w' => e = .returned (.bool true) ∧ Below w.heap.size w w' := by
  by_cases hbig : 400 < len0 + len1
  · clear h0 h1
    go_enter Try.func4, Try.ntmps4
    go_wp2_with fail
    refine (knownAny _).mono ?_
    rintro e w3 ⟨rfl, b3⟩
    have B3 := Lib.hid b3
    clear b3
    go_wp2
    go_ret
    exact ⟨rfl, B3.out⟩
  · have H0 := Lib.hid h0.1
    have H0b := Lib.hid h0.2.2.2
    have H0l := Lib.hid h0.1.1
    have c0 := h0.2.1
    have H1 := Lib.hid h1.1
    have H1l := Lib.hid h1.1.1
    have H1o := Lib.hid h1.2.2.2
    have HD := Lib.hid (decL_ok h0.2.2.2)
    clear h0 h1
    go_enter Try.func4, Try.ntmps4
    go_wp2_with fail
    refine (decodeAny _ a0 len0 cap0 z0 H0.out H0b.out (by omega) c0).mono ?_
    rintro e w1 ⟨a2, n2, c2, rfl, s2, b2⟩
    have S1 := Lib.hid s2
    have B1 := Lib.hid b2
    have N2 := Lib.hid (show n2 = len0 / 4 by have := s2.1; rw [decL_length, H0l.out] at this; omega)
    have n2l : n2 ≤ 400 := by rw [N2.out]; omega
    clear s2 b2
    go_wp2_with fail
    refine (encodeAny _ a2 n2 c2 _ S1.out HD.out.1 (by omega)).mono ?_
    rintro e w2 (⟨_, ao3, cap3, rfl, rd3, le3, b3⟩ | ⟨hbad, _⟩)
    · have S2 := Lib.hid (S1.out.keep b3)
      have R2 := Lib.hid rd3
      have B2 := Lib.hid (B1.out.trans (b3.mono B1.out.size))
      have HC := Lib.hid (show (decL z0).length = n2 from S1.out.1)
      clear b3 rd3
      rw [HC.out] at R2 le3 ⊢
      go_wp2_with fail
      refine (encodeAny _ a1 len1 cap1 z1 (H1.out.keep B2.out) H1o.out (by omega)).mono ?_
      rintro e w3 (⟨hg4, ao4, cap4, rfl, rd4, le4, b4⟩ | ⟨hbad4, rfl, b4⟩)
      · have S3 := Lib.hid (S2.out.keep b4)
        have R3 := Lib.hid (R2.out.keep b4)
        have B3 := Lib.hid (B2.out.trans (b4.mono B2.out.size))
        have D3 := Lib.hid rd4
        have HG4 := Lib.hid hg4
        have HE4 := Lib.hid (show z1.length = len1 from H1l.out)
        clear b4 rd4 hg4
        rw [HE4.out] at D3 le4 ⊢
        go_wp2_with fail
        refine (knownAny _).mono ?_
        rintro e w5 ⟨rfl, b5⟩
        have S5 := Lib.hid (S3.out.keep b5)
        have R5 := Lib.hid (R3.out.keep b5)
        have B5 := Lib.hid (B3.out.trans (b5.mono B3.out.size))
        have D5 := Lib.hid (D3.out.keep b5)
        clear b5
        have m4 : (n2 : Int) * 4 ≤ 4000 := by omega
        have HQ := Lib.hid (show (len0 : Int) / 4 = (n2 : Int) by rw [N2.out]; omega)
        have hq := HQ.out
        have hm : (4 : Int) * (n2 : Int) = (n2 : Int) * 4 := by omega
        go_wp2_with fail
        clear hq hm
        refine (decodeAny _ ao3 (n2 * 4) cap3 _ R5.out (enc_bytes HD.out.1) (by omega) le3).mono ?_
        rintro e w6 ⟨a6, n6, c6, rfl, s6, b6⟩
        have S6 := Lib.hid s6
        have T6 := Lib.hid (S5.out.keep b6)
        have B6 := Lib.hid (B5.out.trans (b6.mono B5.out.size))
        have n6l : n6 ≤ 1000 := by have := s6.1; rw [decL_length, encL_length, HC.out] at this; omega
        have D6 := Lib.hid (D5.out.keep b6)
        clear s6 b6
        go_wp2_with fail
        refine (sameAny _ _ _ _ _ _ _ _ _ S6.out T6.out (by omega) (by omega)).mono ?_
        rintro e w7 ⟨rfl, b7⟩
        have B7 := Lib.hid (B6.out.trans (b7.mono B6.out.size))
        have D7 := Lib.hid (D6.out.keep b7)
        clear b7
        rw [decide_eq_true (dec_enc _ HD.out.2)]
        go_wp2_with fail
        refine (decodeAny _ ao4 (len1 * 4) cap4 _ D7.out (enc_bytes H1o.out) (by omega) le4).mono ?_
        rintro e w8 ⟨a8, n8, c8, rfl, s8, b8⟩
        have S8 := Lib.hid s8
        have B8 := Lib.hid (B7.out.trans (b8.mono B7.out.size))
        have n8l : n8 ≤ 1000 := by have := s8.1; rw [decL_length, encL_length, HE4.out] at this; omega
        clear s8 b8
        go_wp2_with fail
        refine (sameAny _ _ _ _ _ _ _ _ _ S8.out (H1.out.keep B8.out) (by omega) (by omega)).mono ?_
        rintro e w9 ⟨rfl, b9⟩
        have B9 := Lib.hid (B8.out.trans (b9.mono B8.out.size))
        clear b9
        rw [decide_eq_true (dec_enc _ HG4.out)]
        go_wp2
        go_ret
        exact ⟨rfl, B9.out⟩
      · have S3 := Lib.hid (S2.out.keep b4)
        have R3 := Lib.hid (R2.out.keep b4)
        have B3 := Lib.hid (B2.out.trans (b4.mono B2.out.size))
        clear b4 hbad4
        go_wp2_with fail
        refine (knownAny _).mono ?_
        rintro e w5 ⟨rfl, b5⟩
        have S5 := Lib.hid (S3.out.keep b5)
        have R5 := Lib.hid (R3.out.keep b5)
        have B5 := Lib.hid (B3.out.trans (b5.mono B3.out.size))
        clear b5
        have m4 : (n2 : Int) * 4 ≤ 4000 := by omega
        have HQ := Lib.hid (show (len0 : Int) / 4 = (n2 : Int) by rw [N2.out]; omega)
        have hq := HQ.out
        have hm : (4 : Int) * (n2 : Int) = (n2 : Int) * 4 := by omega
        go_wp2_with fail
        clear hq hm
        refine (decodeAny _ ao3 (n2 * 4) cap3 _ R5.out (enc_bytes HD.out.1) (by omega) le3).mono ?_
        rintro e w6 ⟨a6, n6, c6, rfl, s6, b6⟩
        have S6 := Lib.hid s6
        have T6 := Lib.hid (S5.out.keep b6)
        have B6 := Lib.hid (B5.out.trans (b6.mono B5.out.size))
        have n6l : n6 ≤ 1000 := by have := s6.1; rw [decL_length, encL_length, HC.out] at this; omega
        clear s6 b6
        go_wp2_with fail
        refine (sameAny _ _ _ _ _ _ _ _ _ S6.out T6.out (by omega) (by omega)).mono ?_
        rintro e w7 ⟨rfl, b7⟩
        have B7 := Lib.hid (B6.out.trans (b7.mono B6.out.size))
        clear b7
        rw [decide_eq_true (dec_enc _ HD.out.2)]
        go_wp2
        go_ret
        exact ⟨rfl, B7.out⟩
    · rw [HD.out.2] at hbad
      cases hbad

end Go.Proofs.Ytblkkafilabbkaa
