/-
  CombPasses tells true. Conditions: its arguments within their types' bounds.
-/
import Derived.Test.YtikaoikladbdpaaGreatG2716
import Derived.Test.YtikaoikladbdpaaGreatSChn14m
import Derived.Test.YtikaoikladbdpaaGreatKno16m
import Derived.Test.YtikaoikladbdpaaGreatG2916
import Derived.Test.YtikaoikladbdpaaGreatSGrwQ14m
namespace Go.Proofs.YtikaoikladbdpaaGreat.M2
open Go.RowKit

theorem cellIn16 {W : World} {g n i : Nat} {zs : List Int} (h : Reads .i64 W (some ⟨g, 0, none⟩) n zs) (hi : i < n) : W.cell? ⟨g, i, none⟩ = some (.int .i64 (zs.getD i 0)) := by
  obtain ⟨_, h2⟩ := h
  obtain ⟨g', o, e, _, f⟩ := h2 (by omega)
  simp only [Option.some.injEq, Addr.mk.injEq] at e
  obtain ⟨rfl, rfl, _⟩ := e
  have := f i hi
  rwa [Nat.zero_add] at this

set_option maxRecDepth 100000 in
set_option maxHeartbeats 16000000 in
theorem passesWalk {w : World} (ac : Option Addr) (nc cc : Nat) (xs : List Int) (many ps : Int) (hx : ArgBytes w ac nc cc xs) (hnc : nc ≤ 140737488351232) (k0 : 0 ≤ many) (k1 : many ≤ 255) (p0 : 0 ≤ ps) (_ : ps ≤ 255) :
    Calls Tryz.prog 6 #[.slice ac nc cc, .int .u8 many, .int .u8 ps] w fun e w' => e = .returned (.bool true) ∧ Below w.heap.size w w' := by
  have C := chainAny w ac nc cc xs hx hnc (many % 10) (by omega) (by omega)
  clear hx
  go_enter Tryz.func6, Tryz.ntmps6
  go_wp2_with fail
  refine C.mono ?_
  clear C
  rintro e w1 ⟨n, os, zs, gl, g, c, rfl, ⟨hn1, hn9⟩, hol, hos, hch, hlw, hbl, hgl, hoc⟩
  have hle := hos.le
  obtain ⟨L, hL⟩ : ∃ L, 3 + 5 * n = L := ⟨_, rfl⟩
  obtain ⟨m, hm⟩ : ∃ m, os.length = m := ⟨_, rfl⟩
  have hzL : zs.length = L := by have := hch.len; omega
  have HVR := Lib.hid hlw.1
  have HLr := Lib.hid (show Reads .i64 w1 (some ⟨gl, 0, none⟩) L zs by have := hlw.1.reads; rwa [hzL] at this)
  have HB := Lib.hid hlw.2.2
  have HCH := Lib.hid (And.intro hch hos)
  have HN := Lib.hid (show (1 ≤ n ∧ n ≤ 9) ∧ m ≤ n ∧ 3 + 5 * n = L ∧ m ≤ c ∧ os.length = m by omega)
  have HZ := Lib.hid hzL
  have C := memoryTwo w1 (some ⟨gl, 0, none⟩) L L zs HLr.out (by omega)
  rw [hm, hL]
  clear hch hlw hos hol hbl hgl hoc hle hL hm hzL hn1 hn9
  go_wp2_with fail
  refine C.mono ?_
  clear C
  rintro e w2 ⟨p, u, v, rfl, m2, o2, _, b2⟩
  obtain ⟨au, cu, rfl⟩ := ownShape o2
  rw [HZ.out] at m2 ⊢
  have HM := Lib.hid m2
  have HB2 := Lib.hid b2
  clear m2 o2 b2
  go_wp2_with fail
  have hb3 : Below w2.heap.size w2 (w2.alloc (.cells #[.int .i64 (L : Int), .slice au L cu, .int .i64 (1 + (L : Int))] 41)) := (Below.refl _ _).alloc (Nat.le_refl _) _
  generalize w2.alloc (.cells #[.int .i64 (L : Int), .slice au L cu, .int .i64 (1 + (L : Int))] 41) = w3 at *
  have HM3 := Lib.hid (HM.out.fresh hb3)
  have HB3 := Lib.hid (HB2.out.trans (hb3.mono HB2.out.size))
  clear hb3 HM HB2
  refine (obNew 1 3 false w3 (.inl rfl)).mono ?_
  rintro e w4 ⟨o, rfl, ob, b4⟩
  rw [mostOf_self 3 (by decide) (by decide)] at ob
  have HMO := Lib.hid (MO.made HM3.out HB.out.size (HB.out.trans (HB3.out.mono HB.out.size)) ob b4)
  have HB4 := Lib.hid (HB3.out.trans (b4.mono HB3.out.size))
  have HF := Lib.hid (show ∀ q, New w3 w4 q → w1.heap.size ≤ q from fun q hq => Nat.le_trans HB3.out.size hq.1)
  clear ob b4 HB3
  obtain ⟨r, hr, hr9⟩ : ∃ r : Nat, ps.tmod 9 = (r : Int) ∧ r < 9 := ⟨(ps % 9).toNat, by rw [Int.tmod_eq_emod_of_nonneg p0]; omega, by omega⟩
  have C := serveAny w4 HMO.out (1 + (r : Int)) 400 (by omega) (by omega) (by have := HN.out; omega)
  rw [show ((400 : Nat) : Int) = 400 from rfl] at C
  have HC := Lib.hid C
  clear C
  go_wp2_with fail
  with_reducible refine HC.out.mono ?_
  clear HC hr
  rintro e w5 ⟨j, hj, hs1, hs2, v5, F5, x5, av5, rfl, mo5, bx5, ba5, na5, wt5, lt5, nv5⟩
  obtain ⟨q, S', run, hq, e40, e51, e1, ez, es⟩ := passNone (pa := 1 + (r : Int)) (k := 1) (m := 3) (zs := zs) (c := 1 + (L : Int)) (n := n) (os := os) (s := ([], [])) HN.out.1.1 (by have := HN.out; omega) HCH.out.1 HCH.out.2 (by have := HN.out; omega)
  have hjq : j = q := by
    have hnot : srv (goS (1 + (r : Int)) 1 3 ⟨{ t0 with pc := 20 }, [], zs, 1 + (L : Int), ([], []), []⟩ q) = false := by
      rw [run.1]
      exact decide_eq_false (by omega)
    rcases Nat.lt_trichotomy j q with h | h | h
    · rcases hs2 with h2 | h2
      · have := HN.out; omega
      · rw [run.2.1 j h] at h2; cases h2
    · exact h
    · rw [hs1 q h] at hnot; cases hnot
  subst hjq
  rw [run.1] at mo5 bx5 ⊢
  rw [run.2.2] at ba5
  obtain ⟨ax, cx, hx, _⟩ := bx5.shape
  subst hx
  obtain ⟨aa, ca, ha, _⟩ := ba5.shape
  subst ha
  rw [ez, es] at mo5
  obtain ⟨T, hT⟩ : ∃ T, S'.t = T := ⟨_, rfl⟩
  rw [hT] at e40 e51 e1 ⊢
  rw [show thV T (.slice ax S'.l.length cx) = .agg #[.int .i64 T.ti, .int .i64 T.pc, .int .i64 T.rc, .int .i64 T.sq, .int .i64 T.wo, .int .i64 T.lk, .int .i64 T.cu, .int .i64 T.pv, .int .i64 T.nt, .int .i64 T.mx, .int .i64 T.ps, .int .i64 T.rn, .slice ax S'.l.length cx] from rfl, e40, e51, e1]
  have b5 : Below w1.heap.size w4 w5 := wt5.below (Nat.le_trans HB4.out.size (Nat.le_refl _)) (fun g hg => by
    rcases hg with rfl | hg | hg
    · exact HM3.out.low
    · exact (HM3.out.rowLt hg).1
    · exact HF.out g hg)
  have HR5 := Lib.hid (show Reads .i64 w5 (some ⟨gl, 0, none⟩) L zs by
    have := ((HVR.out.keep (HB4.out.trans (b5.mono (Nat.le_refl _)))).reads)
    rwa [HZ.out] at this)
  have H5 := Lib.hid (And.intro mo5 (HB.out.trans ((HB4.out.trans b5).mono HB.out.size)))
  have Hz2 := Lib.hid HCH.out.1.z2
  clear mo5 bx5 ba5 na5 wt5 lt5 nv5 hs1 hs2 run hq ez es hT hj b5 hr9
  clear HMO HB4 HF HM3 HCH HVR HLr HB
  go_wp2_with fail
  have T6 : TX (w5.alloc (.cells #[.int .i64 T.ti, .int .i64 40, .int .i64 T.rc, .int .i64 T.sq, .int .i64 T.wo, .int .i64 T.lk, .int .i64 T.cu, .int .i64 T.pv, .int .i64 T.nt, .int .i64 T.mx, .int .i64 51, .int .i64 1, .slice ax S'.l.length cx] 25)) w5.heap.size { T with pc := 40, ps := 51, rn := 1 } (.slice ax S'.l.length cx) := TX.new w5 { T with pc := 40, ps := 51, rn := 1 } _
  have b6 : Below w5.heap.size w5 (w5.alloc (.cells #[.int .i64 T.ti, .int .i64 40, .int .i64 T.rc, .int .i64 T.sq, .int .i64 T.wo, .int .i64 T.lk, .int .i64 T.cu, .int .i64 T.pv, .int .i64 T.nt, .int .i64 T.mx, .int .i64 51, .int .i64 1, .slice ax S'.l.length cx] 25)) := (Below.refl _ _).alloc (Nat.le_refl _) _
  generalize w5.alloc (.cells #[.int .i64 T.ti, .int .i64 40, .int .i64 T.rc, .int .i64 T.sq, .int .i64 T.wo, .int .i64 T.lk, .int .i64 T.cu, .int .i64 T.pv, .int .i64 T.nt, .int .i64 T.mx, .int .i64 51, .int .i64 1, .slice ax S'.l.length cx] 25) = w6 at *
  have C := cells1 ⟨_, (H5.out.1.fresh b6).me⟩
  rw [List.length_set, HZ.out] at C
  refine C.mono ?_
  clear C
  rintro e w7 ⟨rfl, o7, b7⟩
  obtain ⟨aq, cq, e, r7, _⟩ := _root_.Go.Proofs.YtikaoikladbdpaaGreat.reads_own o7
  simp only [Value.slice.injEq] at e
  obtain ⟨rfl, _, rfl⟩ := e
  have HT := Lib.hid (T6.keep b7)
  have HL := Lib.hid ((HR5.out.keep b6).keep b7)
  have HNow := Lib.hid r7
  have HB7 := Lib.hid (H5.out.2.trans ((b6.trans (b7.mono b6.size)).mono H5.out.2.size))
  clear T6 b6 b7 r7 o7 H5 HR5
  obtain ⟨g7, hg7⟩ : ∃ g7, w6.heap.size = g7 := ⟨_, rfl⟩
  obtain ⟨gt, hgt⟩ : ∃ gt, w5.heap.size = gt := ⟨_, rfl⟩
  rw [hg7] at HNow ⊢
  rw [hgt] at HT ⊢
  clear hg7 hgt e1 e51 e40
  go_wp2
  go_loopw [15] (fun kv wr => ∃ k : Nat, k ≤ L ∧ kv = .int .i64 (k : Int) ∧ Hid (Below w7.heap.size w7 wr)) (fun kv _ => L - (intOf kv).toNat)
  case atStart => exact ⟨0, Nat.zero_le _, rfl, Lib.hid (Below.refl _ _)⟩
  case round =>
    obtain ⟨k, hk, rfl, hw⟩ := hrel
    have HW : Hid (Below w7.heap.size w7 wr) := hw
    have l9 : (L : Int) ≤ 48 := by have := HN.out; omega
    clear hw
    by_cases hlt : k < L
    · have hlt' : (k : Int) < L := by omega
      have c1 := cellIn16 (HL.out.keep HW.out) hlt
      by_cases h2 : k = 2
      · have hk2 : (k : Int) = 2 := by omega
        go_wp2
        go_quiet (fail)
        go_wp2
        go_roundw
        case rel => exact ⟨k + 1, by omega, by go_num, Lib.hid (below_drewN HW.out _)⟩
        case measure => simp [intOf]; omega
      · have hk3 : ¬ (k : Int) = 2 := by omega
        have hk2 : ((k : Int) == 2) = false := beq_eq_false_iff_ne.2 hk3
        have hk4 : ((k : Int) != 2) = true := bne_iff_ne.2 hk3
        have hk5 : (!((k : Int) == 2)) = true := by rw [hk2]; rfl
        have hk6 : decide ((k : Int) = 2) = false := decide_eq_false hk3
        have c2 := cellIn16 (HNow.out.keep HW.out) hlt
        rw [show (zs.set 2 51).getD k 0 = zs.getD k 0 by rw [List.getD_eq_getElem?_getD, List.getElem?_set_ne (by omega), ← List.getD_eq_getElem?_getD]] at c2
        generalize zs.getD k 0 = e1 at *
        go_wp2
        go_quiet (fail)
        go_wp2
        go_roundw
        case rel => exact ⟨k + 1, by omega, by go_num, Lib.hid (below_drewN HW.out _)⟩
        case measure => simp [intOf]; omega
    · have hlt' : ¬ (k : Int) < L := by omega
      have h2L : 2 < L := by have := HN.out; omega
      have h2i : (2 : Int) < (L : Int) := by omega
      have HS := Lib.hid (show ∀ V, Below w7.heap.size w7 V → V.cell? ⟨gt, 1, none⟩ = some (.int .i64 40) ∧ V.cell? ⟨gt, 11, none⟩ = some (.int .i64 1) ∧ V.cell? ⟨gt, 10, none⟩ = some (.int .i64 51) ∧ V.cell? ⟨g7, 2, none⟩ = some (.int .i64 51) ∧ V.cell? ⟨gl, 2, none⟩ = some (.int .i64 50) from fun V b => by
        have T8 := HT.out.keep b
        have cl := cellIn16 (HL.out.keep b) (i := 2) h2L
        have cn := cellIn16 (HNow.out.keep b) (i := 2) h2L
        rw [Hz2.out] at cl
        rw [show (zs.set 2 51).getD 2 0 = 51 by rw [List.getD_eq_getElem?_getD, List.getElem?_set_self (by have := HZ.out; omega)]; rfl] at cn
        exact ⟨T8.c1, T8.c11, T8.c10, cn, cl⟩)
      have HD := Lib.hid (show Below w7.heap.size w7 wr.drew from HW.out.drew)
      have K := Lib.hid (known wr.drew)
      obtain ⟨i0, i1, i2, i3, i4⟩ := HS.out _ HW.out
      obtain ⟨d0, d1, d2, d3, d4⟩ := HS.out _ HD.out
      have hn9 := HN.out
      go_wp2
      go_region_held3 (fun w' => w'.cell? ⟨gt, 1, none⟩ = some (.int .i64 40) ∧ w'.cell? ⟨gt, 11, none⟩ = some (.int .i64 1) ∧ w'.cell? ⟨gt, 10, none⟩ = some (.int .i64 51) ∧ w'.cell? ⟨g7, 2, none⟩ = some (.int .i64 51) ∧ w'.cell? ⟨gl, 2, none⟩ = some (.int .i64 50)) (first | with_reducible exact ⟨i0, i1, i2, i3, i4⟩ | with_reducible exact ⟨d0, d1, d2, d3, d4⟩ | with_reducible exact ⟨j0, j1, j2, j3, j4⟩) (first | ((with_reducible refine K.out.mono ?_); rintro e w8 ⟨rfl, b8⟩; have B8 := Lib.hid (HD.out.trans (b8.mono HD.out.size)); obtain ⟨j0, j1, j2, j3, j4⟩ := HS.out _ B8.out; clear b8))
      have HB8 := Lib.hid (HB7.out.trans (B8.out.mono HB7.out.size))
      have hL5 : IntKind.i64.wrap ((IntKind.i64.wrap ((L : Int) - 3)).tdiv 5) = (n : Int) := by
        have e1 : IntKind.i64.wrap ((L : Int) - 3) = ((5 * n : Nat) : Int) := by rw [show ((L : Int) - 3) = ((5 * n : Nat) : Int) by omega, IntKind.wrap_i64]; omega
        have e2 : (((5 * n : Nat) : Int)).tdiv 5 = (n : Int) := by
          rw [Int.tdiv_eq_ediv_of_nonneg (Int.natCast_nonneg _), Int.natCast_mul]
          exact Int.mul_ediv_cancel_left _ (by decide)
        rw [e1, e2, IntKind.wrap_i64]
        omega
      have h51 : IntKind.i64.wrap 51 = 51 := by rfl
      have hmn : (m : Int) ≤ n := by omega
      go_wp2
      go_ret
      exact ⟨by simp [hL5, h51, hmn], HB8.out⟩
end Go.Proofs.YtikaoikladbdpaaGreat.M2
