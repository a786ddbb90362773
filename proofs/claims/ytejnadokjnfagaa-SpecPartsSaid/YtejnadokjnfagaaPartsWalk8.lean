/-
  The walk of SpecParts: for all objects, sizes, bytes and places it answers true and leaves all old memory as it was.
-/
import Derived.Test.YtejnadokjnfagaaOpsC8
namespace Go.Proofs.Ytejnadokjnfagaa
open Go.RowKit Go.Lib

/-- A row of one's own that grows behind memory W. -/
def Grown2 (W w1 : World) (v : Value) (m : Nat) (xs : List Value) : Prop := w1.ownsRow W.heap.size 32 2 v m xs ∧ Below W.heap.size W w1
theorem Grown2.one {W w1 : World} {v : Value} {m : Nat} {xs : List Value} (q : w1.ownsRow W.heap.size 32 2 v (0 + m) ([] ++ xs)) (g : W.grownBy w1 (Value.ownBlock (.slice none 0 0))) : Grown2 W w1 v m xs := by
  rw [Nat.zero_add, List.nil_append] at q
  exact ⟨q, (Below.refl _ _).grown g (Nat.le_refl _) (fun k e => by cases e)⟩
theorem Grown2.more {W w1 w2 : World} {v v2 : Value} {m m2 : Nat} {xs ys : List Value} (h : Grown2 W w1 v m xs) (q : w2.ownsRow W.heap.size 32 2 v2 m2 ys) (g : w1.grownBy w2 v.ownBlock) : Grown2 W w2 v2 m2 ys :=
  ⟨q, h.2.grown g h.2.size (fun k e => (h.1.lt k e).1)⟩

set_option maxRecDepth 100000 in
set_option maxHeartbeats 16000000 in
theorem partsWalk {w : World} (obj most : Int) (ac : Option Addr) (lc cc : Nat) (xs : List Int) (at_ : Int) (h0 : 0 ≤ obj) (_ : obj ≤ 255) (_ : -9223372036854775808 ≤ most) (_ : most ≤ 9223372036854775807) (hx : ArgBytes w ac lc cc xs) (hlc : lc ≤ 140737488351232) (a0 : 0 ≤ at_) (a1 : at_ ≤ 255) :
    Calls Try.prog 7 #[.int .u8 obj, .int .i64 most, .slice ac lc cc, .int .u8 at_] w fun e w' => e = .returned (.bool true) ∧ Below w.heap.size w w' := by
  obtain ⟨i0, hi, hz0, hz1, hz2⟩ := info_parts infoRes
  have HX := Lib.hid hx
  clear hx
  by_cases hl : 100 < lc
  · go_enter Try.func7, Try.ntmps7
    go_wp2_with fail
    refine (known _).mono ?_
    rintro e w1 ⟨rfl, b1⟩
    have HB1 := Lib.hid b1
    clear b1
    go_wp2
    go_ret
    exact ⟨rfl, HB1.out⟩
  · go_enter Try.func7, Try.ntmps7
    go_wp2_with fail
    refine (opsAnyC w ac lc cc xs 5 HX.out.1 HX.out.2.2.2 (by omega) (by omega) (by omega)).mono ?_
    rintro e w1 ⟨oo, oc, rfl, o1, oc1, _, b1⟩
    have hol := opsL_len 5 xs
    have HO := Lib.hid o1
    have HB1 := Lib.hid b1
    clear o1 b1
    generalize opsL 5 xs = os at *
    generalize hn : os.length = n at *
    have HN := Lib.hid hn
    clear hn
    obtain ⟨k, hk⟩ : ∃ k : Nat, at_ % ((n : Int) + 1) = k := ⟨(at_ % ((n : Int) + 1)).toNat, by have := Int.emod_nonneg at_ (show (n : Int) + 1 ≠ 0 by omega); omega⟩
    have hkn : k ≤ n := by have := Int.emod_lt_of_pos at_ (show 0 < (n : Int) + 1 by omega); omega
    have e1 : at_.tmod ((n : Int) + 1) = (k : Int) := by rw [Int.tmod_eq_emod_of_nonneg a0]; exact hk
    have e2 : IntKind.i64.wrap (k : Int) = (k : Int) := by rw [IntKind.wrap_i64]; omega
    have e3 : ¬ ((n : Int) + 1 = 0) := by omega
    have e4 : IntKind.i64.wrap ((n : Int) + 1) = (n : Int) + 1 := by rw [IntKind.wrap_i64]; omega
    have e5 : IntKind.i64.wrap at_ = at_ := by rw [IntKind.wrap_i64]; omega
    obtain ⟨q, hq⟩ : ∃ q : Int, obj % 3 = q := ⟨_, rfl⟩
    have q0 : 0 ≤ q ∧ q < 3 := by omega
    have e6 : obj.tmod 3 = q := by rw [Int.tmod_eq_emod_of_nonneg h0]; exact hq
    have e7 : IntKind.u8.wrap q = q := by rw [IntKind.wrap_u8]; omega
    have e8 : IntKind.u8.wrap (1 + q) = 1 + q := by rw [IntKind.wrap_u8]; omega
    obtain ⟨q1, q2⟩ := q0
    clear hk hq a0 a1
    go_upto_region 6 with (fail)
    clear e1 e3 e4 e5 e6 e7 e8 q1 q2
    generalize 1 + q = o at *
    have HM := Lib.hid (mostOf_in most)
    have HC := Lib.hid (runAny w1 o most none oo 0 0 n oc [] os (ints_none w1 none) HO.out (by omega) (by omega))
    go_wp2_with fail
    refine HC.out.mono ?_
    rintro e w2 ⟨v2, g2, rfl, t2, r2, _, _, b2⟩
    obtain ⟨a2, c2, rfl, rd2, _⟩ := tailReads t2
    rw [HN.out]
    have HB2 := Lib.hid b2
    have HR2 := Lib.hid (And.intro rd2 r2)
    clear t2 rd2 r2 b2 HC
    have k0 : (0 : Int) ≤ (k : Int) := by omega
    have k1 : (k : Int) ≤ n := by omega
    have k2 : (k : Int) ≤ oc := by omega
    have n2 : (n : Int) ≤ oc := by omega
    have HC := Lib.hid (runAny w2 o most none oo 0 0 k oc [] (os.take k) (ints_none w2 none) (ops_take (HO.out.keep HB2.out) hkn) (by omega) (by omega))
    have HTl := Lib.hid (show (os.take k).length = k by rw [List.length_take, HN.out, Nat.min_eq_left hkn])
    go_wp2_with fail
    refine HC.out.mono ?_
    rintro e w3 ⟨v3, g3, rfl, t3, r3, _, _, b3⟩
    have HL3 := Lib.hid (runZ_le (obj := o) (mostOf_in most).2 (os.take k) [] (by simp))
    obtain ⟨a3, c3, rfl, rd3, _⟩ := tailReads t3
    rw [HTl.out]
    have HB3 := Lib.hid (HB2.out.trans (b3.mono HB2.out.size))
    have HR3 := Lib.hid (And.intro rd3 r3)
    have HR23 := Lib.hid (And.intro (HR2.out.1.keep b3) (HR2.out.2.below b3))
    clear t3 rd3 r3 b3 HC HR2 HB2
    have HDl := Lib.hid (show (os.drop k).length = n - k by rw [List.length_drop, HN.out])
    by_cases hkl : k < n
    · obtain ⟨ob, oo', rfl, _, _⟩ := HO.out.2 (by omega)
      have HC := Lib.hid (runAny w3 o most a3 (some ⟨ob, oo' + k * 2, none⟩) (runZ o (mostOf most) [] (os.take k)).length c3 (n - k) (oc - k) (runZ o (mostOf most) [] (os.take k)) (os.drop k) HR3.out.1 (ops_drop (HO.out.keep HB3.out) hkl) HL3.out (by omega))
      go_wp2_with fail
      refine HC.out.mono ?_
      rintro e w4 ⟨v4, g4, rfl, t4, r4, _, _, b4⟩
      have eZ : runZ o (mostOf most) (runZ o (mostOf most) [] (os.take k)) (os.drop k) = runZ o (mostOf most) [] os := by rw [← runZ_append, List.take_append_drop]
      have eT : runT o (mostOf most) [] os = runT o (mostOf most) [] (os.take k) ++ runT o (mostOf most) (runZ o (mostOf most) [] (os.take k)) (os.drop k) := by rw [← runT_append, List.take_append_drop]
      rw [eZ] at t4
      obtain ⟨a4, c4, rfl, rd4, _⟩ := tailReads t4
      have HL4 := Lib.hid (runZ_le (obj := o) (mostOf_in most).2 os [] (by simp))
      have HLT := Lib.hid (show (runT o (mostOf most) [] os).length = n by rw [runT_length, HN.out])
      have HLA := Lib.hid (show (runT o (mostOf most) [] (os.take k)).length = k by rw [runT_length, HTl.out])
      have HLB := Lib.hid (show (runT o (mostOf most) (runZ o (mostOf most) [] (os.take k)) (os.drop k)).length = n - k by rw [runT_length, HDl.out])
      rw [HDl.out]
      have HB4 := Lib.hid (HB3.out.trans (b4.mono HB3.out.size))
      have HR24 := Lib.hid (And.intro (HR23.out.1.keep b4) (HR23.out.2.below b4))
      have HR34 := Lib.hid (HR3.out.2.below b4)
      have HR4 := Lib.hid (And.intro rd4 r4)
      have HET := Lib.hid eT
      clear t4 rd4 r4 b4 HC HB3 HR23 HR3 eZ eT HL3
      generalize runZ o (mostOf most) [] os = Z at *
      generalize runT o (mostOf most) (runZ o (mostOf most) [] (os.take k)) (os.drop k) = TB at *
      generalize runT o (mostOf most) [] (os.take k) = TA at *
      generalize runT o (mostOf most) [] os = T at *
      generalize runZ o (mostOf most) [] (os.take k) = Zk at *
      have hnk : k + (n - k) = n := by omega
      go_upto_region 12 with (first
        | (at_builtin; refine wpList_append_src _ rfl (.tmp 60) (.tmp 61) 38 rfl w4.heap.size 32 i0 _ 2 8 Try.underlying38 hi hz0 hz1 hz2 rfl (by decide) (.slice none 0 0) 0 [] rfl (World.ownsRow_nil _ _ _ _) _ _ _ (flatO TA) rfl (by rw [flatO_length, HLA.out]) HR34.out.src (flatO_one _) (by simp only [maxLen]; omega) (by omega) (Nat.le_refl _) ?_; intro v5 w5 q5 g5; have HG5 := Lib.hid (Grown2.one q5 g5); obtain ⟨a5, cp5, rfl⟩ := ownShape HG5.out.1; clear q5 g5)
        | (at_builtin; refine wpList_append_src _ rfl (.tmp 63) (.tmp 64) 38 rfl w4.heap.size 32 i0 _ 2 8 Try.underlying38 hi hz0 hz1 hz2 rfl (by decide) _ k _ rfl HG5.out.1 _ _ _ (flatO TB) rfl (by rw [flatO_length, HLB.out]) (HR4.out.2.below HG5.out.2).src (flatO_one _) (by simp only [maxLen]; omega) (by omega) HG5.out.2.size ?_; intro v6 w6 q6 g6; have HG6 := Lib.hid (show Grown2 w4 w6 v6 n (flatO TA ++ flatO TB) from by have h := HG5.out.more q6 g6; rw [hnk] at h; exact h); obtain ⟨a6, cp6, rfl⟩ := ownShape HG6.out.1; clear q6 g6))
      obtain ⟨a6', c6', e6', rd6⟩ := resAt_own (show w6.ownsRow w4.heap.size 32 2 _ _ (flatO (TA ++ TB)) by rw [flatO_append]; exact HG6.out.1)
      simp only [Value.slice.injEq, true_and] at e6'
      obtain ⟨rfl, rfl⟩ := e6'
      rw [← HET.out] at rd6
      have HD6 := Lib.hid rd6
      have HB6 := Lib.hid (HB4.out.trans (HG6.out.2.mono HB4.out.size))
      have HBW := Lib.hid (HB1.out.trans (HB6.out.mono HB1.out.size))
      have HRS := Lib.hid (And.intro (HR24.out.1.keep HG6.out.2) (HR4.out.1.keep HG6.out.2))
      have HTT := Lib.hid (by have := ((HR24.out.2.below HG6.out.2)).ops; rw [HLT.out] at this; exact this)
      clear rd6 HG5 HG6 HR24 HR34 HR4 HB4 HB6 HB1 HO
      go_wp2_with fail
      refine (known _).mono ?_
      rintro e w7 ⟨rfl, b7⟩
      have HB7 := Lib.hid (HBW.out.trans (b7.mono HBW.out.size))
      have HTT7 := Lib.hid (And.intro (HTT.out.keep b7) (HD6.out.keep b7))
      have HS := Lib.hid (sameEq w7 a2 a4 Z.length c2 c4 Z (HRS.out.1.keep b7) (HRS.out.2.keep b7) HL4.out)
      clear b7 HBW HTT HD6 HRS
      go_wp2_with fail
      refine HS.out.mono ?_
      rintro e w8 ⟨rfl, b8⟩
      have HB8 := Lib.hid (HB7.out.trans (b8.mono HB7.out.size))
      have HT := Lib.hid (toldEq w8 (some ⟨g2, 0, none⟩) a6 n n cp6 T (HTT7.out.1.keep b8) (HTT7.out.2.keep b8) (by omega))
      clear b8 HB7 HTT7 HS
      go_wp2_with fail
      refine HT.out.mono ?_
      rintro e w9 ⟨rfl, b9⟩
      have HB9 := Lib.hid (HB8.out.trans (b9.mono HB8.out.size))
      clear b9 HB8
      go_wp2
      go_ret
      exact ⟨rfl, HB9.out⟩
    · obtain rfl : k = n := by omega
      have HC := Lib.hid (fun A C => runAny w3 o most a3 A (runZ o (mostOf most) [] (os.take k)).length c3 0 C (runZ o (mostOf most) [] (os.take k)) (os.drop k) HR3.out.1 (by rw [show os.drop k = [] by exact List.drop_eq_nil_of_le (by rw [HN.out]; exact Nat.le_refl _)]; exact ops_none _ _) HL3.out (by omega))
      have HDl := Lib.hid (show (os.drop k).length = 0 by rw [HDl.out]; omega)
      go_wp2_with fail
      all_goals
        refine (HC.out _ _).mono ?_
        rintro e w4 ⟨v4, g4, rfl, t4, r4, _, _, b4⟩
        have eZ : runZ o (mostOf most) (runZ o (mostOf most) [] (os.take k)) (os.drop k) = runZ o (mostOf most) [] os := by rw [← runZ_append, List.take_append_drop]
        have eT : runT o (mostOf most) [] os = runT o (mostOf most) [] (os.take k) ++ runT o (mostOf most) (runZ o (mostOf most) [] (os.take k)) (os.drop k) := by rw [← runT_append, List.take_append_drop]
        rw [eZ] at t4
        obtain ⟨a4, c4, rfl, rd4, _⟩ := tailReads t4
        have HL4 := Lib.hid (runZ_le (obj := o) (mostOf_in most).2 os [] (by simp))
        have HLT := Lib.hid (show (runT o (mostOf most) [] os).length = k by rw [runT_length, HN.out])
        have HLA := Lib.hid (show (runT o (mostOf most) [] (os.take k)).length = k by rw [runT_length, HTl.out])
        have HLB := Lib.hid (show (runT o (mostOf most) (runZ o (mostOf most) [] (os.take k)) (os.drop k)).length = 0 by rw [runT_length, HDl.out])
        rw [HDl.out]
        have HB4 := Lib.hid (HB3.out.trans (b4.mono HB3.out.size))
        have HR24 := Lib.hid (And.intro (HR23.out.1.keep b4) (HR23.out.2.below b4))
        have HR34 := Lib.hid (HR3.out.2.below b4)
        have HR4 := Lib.hid (And.intro rd4 r4)
        have HET := Lib.hid eT
        clear t4 rd4 r4 b4 HC HB3 HR23 HR3 eZ eT HL3
        generalize runZ o (mostOf most) [] os = Z at *
        generalize runT o (mostOf most) (runZ o (mostOf most) [] (os.take k)) (os.drop k) = TB at *
        generalize runT o (mostOf most) [] (os.take k) = TA at *
        generalize runT o (mostOf most) [] os = T at *
        generalize runZ o (mostOf most) [] (os.take k) = Zk at *
        have hnk : k + 0 = k := by omega
        go_upto_region 12 with (first
          | (at_builtin; refine wpList_append_src _ rfl (.tmp 60) (.tmp 61) 38 rfl w4.heap.size 32 i0 _ 2 8 Try.underlying38 hi hz0 hz1 hz2 rfl (by decide) (.slice none 0 0) 0 [] rfl (World.ownsRow_nil _ _ _ _) _ _ _ (flatO TA) rfl (by rw [flatO_length, HLA.out]) HR34.out.src (flatO_one _) (by simp only [maxLen]; omega) (by omega) (Nat.le_refl _) ?_; intro v5 w5 q5 g5; have HG5 := Lib.hid (Grown2.one q5 g5); obtain ⟨a5, cp5, rfl⟩ := ownShape HG5.out.1; clear q5 g5)
          | (at_builtin; refine wpList_append_src _ rfl (.tmp 63) (.tmp 64) 38 rfl w4.heap.size 32 i0 _ 2 8 Try.underlying38 hi hz0 hz1 hz2 rfl (by decide) _ k _ rfl HG5.out.1 _ _ _ (flatO TB) rfl (by rw [flatO_length, HLB.out]) (HR4.out.2.below HG5.out.2).src (flatO_one _) (by simp only [maxLen]; omega) (by omega) HG5.out.2.size ?_; intro v6 w6 q6 g6; have HG6 := Lib.hid (show Grown2 w4 w6 v6 k (flatO TA ++ flatO TB) from by have h := HG5.out.more q6 g6; rw [hnk] at h; exact h); obtain ⟨a6, cp6, rfl⟩ := ownShape HG6.out.1; clear q6 g6))
        obtain ⟨a6', c6', e6', rd6⟩ := resAt_own (show w6.ownsRow w4.heap.size 32 2 _ _ (flatO (TA ++ TB)) by rw [flatO_append]; exact HG6.out.1)
        simp only [Value.slice.injEq, true_and] at e6'
        obtain ⟨rfl, rfl⟩ := e6'
        rw [← HET.out] at rd6
        have HD6 := Lib.hid rd6
        have HB6 := Lib.hid (HB4.out.trans (HG6.out.2.mono HB4.out.size))
        have HBW := Lib.hid (HB1.out.trans (HB6.out.mono HB1.out.size))
        have HRS := Lib.hid (And.intro (HR24.out.1.keep HG6.out.2) (HR4.out.1.keep HG6.out.2))
        have HTT := Lib.hid (by have := ((HR24.out.2.below HG6.out.2)).ops; rw [HLT.out] at this; exact this)
        clear rd6 HG5 HG6 HR24 HR34 HR4 HB4 HB6 HB1 HO
        go_wp2_with fail
        refine (known _).mono ?_
        rintro e w7 ⟨rfl, b7⟩
        have HB7 := Lib.hid (HBW.out.trans (b7.mono HBW.out.size))
        have HTT7 := Lib.hid (And.intro (HTT.out.keep b7) (HD6.out.keep b7))
        have HS := Lib.hid (sameEq w7 a2 a4 Z.length c2 c4 Z (HRS.out.1.keep b7) (HRS.out.2.keep b7) HL4.out)
        clear b7 HBW HTT HD6 HRS
        go_wp2_with fail
        refine HS.out.mono ?_
        rintro e w8 ⟨rfl, b8⟩
        have HB8 := Lib.hid (HB7.out.trans (b8.mono HB7.out.size))
        have HT := Lib.hid (toldEq w8 (some ⟨g2, 0, none⟩) a6 k k cp6 T (HTT7.out.1.keep b8) (HTT7.out.2.keep b8) (by omega))
        clear b8 HB7 HTT7 HS
        go_wp2_with fail
        refine HT.out.mono ?_
        rintro e w9 ⟨rfl, b9⟩
        have HB9 := Lib.hid (HB8.out.trans (b9.mono HB8.out.size))
        clear b9 HB8
        go_wp2
        go_ret
        exact ⟨rfl, HB9.out⟩

end Go.Proofs.Ytejnadokjnfagaa
