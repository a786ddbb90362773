/-
  The walk of SweepTwice: for all lists of bytes and all numbers it answers true and leaves all old memory as it was.
-/
import Derived.Test.YtfnjbbokbdddpaaTwPl17m
namespace Go.Proofs.Ytfnjbbokbdddpaa.M2
open Go.RowKit

set_option maxRecDepth 100000 in
set_option maxHeartbeats 16000000 in
theorem twiceWalk {w : World} (ac : Option Addr) (nc cc : Nat) (xs : List Int) (many age more : Int) (hx : ArgBytes w ac nc cc xs) (hnc : nc ≤ 140737488351232) (k0 : 0 ≤ many) (k1 : many ≤ 255) (a0 : 0 ≤ age) (a1 : age ≤ 255) (b0 : 0 ≤ more) (b1 : more ≤ 255) :
    Calls Try.prog 6 #[.slice ac nc cc, .int .u8 many, .int .u8 age, .int .u8 more] w fun e w' => e = .returned (.bool true) ∧ Below w.heap.size w w' := by
  have C := chainAny w ac nc cc xs hx hnc (many % 10) (by omega) (by omega)
  clear hx
  go_enter Try.func6, Try.ntmps6
  go_wp2_with fail
  refine C.mono ?_
  clear C
  rintro e w1 ⟨n, os, zs, gl, g, c, rfl, ⟨hn1, hn9⟩, hol, hos, hch, hlw, hbl, hgl, hoc⟩
  have hzl := hch.len
  have hle := hos.le
  obtain ⟨L, hL⟩ : ∃ L, 3 + 5 * n = L := ⟨_, rfl⟩
  obtain ⟨m, hm⟩ : ∃ m, os.length = m := ⟨_, rfl⟩
  have hzL : zs.length = L := by omega
  have HL := Lib.hid (show Reads .i64 w1 (some ⟨gl, 0, none⟩) L zs by have := hlw.1.readsW; rwa [hzL] at this)
  have HL0 := HL
  have HB := Lib.hid hlw.2.2
  have HV := Lib.hid (Below.refl w1.heap.size w1)
  have HWS := Lib.hid hlw.2.2.size
  have HOK := Lib.hid (Ok.start hch hos)
  have HOS := Lib.hid hos
  have HZ2 := Lib.hid hch.z2
  have HN := Lib.hid (show (1 ≤ n ∧ n ≤ 9) ∧ m ≤ n ∧ 3 + 5 * n = L ∧ m ≤ c by omega)
  have HZ := Lib.hid hzL
  have C := memoryTwo w1 (some ⟨gl, 0, none⟩) L L zs HL.out (by omega)
  rw [hm, hL]
  clear hch hlw hos hol hzl hbl hgl hoc hle hL hm hzL hn1 hn9
  go_wp2_with fail
  refine C.mono ?_
  clear C
  rintro e w2 ⟨p, u, v, rfl, m2, o2, n2, b2⟩
  obtain ⟨au, cu, rfl⟩ := ownShape o2
  rw [HZ.out] at m2 ⊢
  have HM := Lib.hid m2
  replace HL := Lib.hid (HL.out.keep b2)
  replace HB := Lib.hid (HB.out.trans (b2.mono HB.out.size))
  replace HV := Lib.hid (HV.out.trans (b2.mono HV.out.size))
  clear m2 o2 b2 n2
  go_upto_region 3 with (fail)
  generalize hW : w2.alloc (.cells #[.int .i64 (L : Int), .slice au L cu, .int .i64 (1 + (L : Int))] 39) = W3
  have ff : Below w2.heap.size w2 W3 := by subst hW; exact (Below.refl _ _).alloc (Nat.le_refl _) _
  replace HL := Lib.hid (HL.out.keep ff)
  replace HB := Lib.hid (HB.out.trans (ff.mono HB.out.size))
  replace HV := Lib.hid (HV.out.trans (ff.mono HV.out.size))
  replace HM := Lib.hid (HM.out.fresh ff)
  clear ff hW
  have C := Lib.hid (memoryTwo W3 (some ⟨gl, 0, none⟩) L L zs HL.out (by have := HN.out; omega))
  go_wp2_with fail
  with_reducible refine C.out.mono ?_
  clear C
  rintro e w5 ⟨q, u5, v5, rfl, m5, o5, n5, b5⟩
  obtain ⟨au5, cu5, rfl⟩ := ownShape o5
  rw [HZ.out] at m5 ⊢
  have HS := Lib.hid (M2s.new HM.out b5 m5 (Nat.le_refl _))
  have HLE := Lib.hid (show w1.heap.size ≤ W3.heap.size from HV.out.size)
  replace HL := Lib.hid (HL.out.keep b5)
  replace HB := Lib.hid (HB.out.trans (b5.mono HB.out.size))
  replace HV := Lib.hid (HV.out.trans (b5.mono HV.out.size))
  clear m5 o5 n5 b5 HM
  go_upto_region 4 with (fail)
  generalize hW : w5.alloc (.cells #[.int .i64 (L : Int), .slice au5 L cu5, .int .i64 (1 + (L : Int))] 39) = W6
  have ff : Below w5.heap.size w5 W6 := by subst hW; exact (Below.refl _ _).alloc (Nat.le_refl _) _
  replace HL := Lib.hid (HL.out.keep ff)
  replace HB := Lib.hid (HB.out.trans (ff.mono HB.out.size))
  replace HV := Lib.hid (HV.out.trans (ff.mono HV.out.size))
  replace HS := Lib.hid (HS.out.fresh ff)
  clear ff hW
  have HLW := Lib.hid (show ∀ W, Below w1.heap.size w1 W → W.cell? ⟨gl, 2, none⟩ = some (.int .i64 50) from fun W hb => by
    obtain ⟨b, o, e, _, hc⟩ := (HL0.out.keep hb).2 (by have := HN.out; omega)
    simp only [Option.some.injEq, Addr.mk.injEq] at e
    obtain ⟨rfl, rfl, _⟩ := e
    have := hc 2 (by have := HN.out; omega)
    rwa [HZ2.out, Nat.zero_add] at this)
  have h2L : 2 < L := by have := HN.out; omega
  have h2i : (2 : Int) < (L : Int) := by omega
  obtain ⟨ag, hag⟩ : ∃ ag : Int, age % 60 = ag := ⟨_, rfl⟩
  obtain ⟨mr, hmr⟩ : ∃ mr : Int, more % 60 = mr := ⟨_, rfl⟩
  have HAG := Lib.hid (show (0 ≤ ag ∧ ag ≤ 59) ∧ (0 ≤ mr ∧ mr ≤ 59) by omega)
  have g0 := HAG.out.1.1
  have g1 := HAG.out.1.2
  have r0 := HAG.out.2.1
  have r1 := HAG.out.2.2
  have C := Lib.hid (allOk HS.out.a HOK.out (by have := HN.out; omega) ag 50 (by omega) (by have := HN.out; omega))
  have cl := HLW.out _ HV.out
  go_wp2_with fail
  rw [hag]
  with_reducible refine C.out.mono ?_
  clear C cl
  rintro e w7 ⟨T7, k7, zs7, st7, rfl, _, _, d7, hs7, s7⟩
  rw [show thN T7 = .agg #[.int .i64 T7.ti, .int .i64 T7.pc, .int .i64 T7.rc, .int .i64 T7.sq, .int .i64 T7.wo, .int .i64 T7.lk, .int .i64 T7.cu, .int .i64 T7.pv, .int .i64 T7.nt, .int .i64 T7.mx, .int .i64 T7.ps, .int .i64 T7.rn, .slice none 0 0] from rfl]
  have HS7 := Lib.hid hs7
  have HSW := Lib.hid s7
  have b7 := Did.under HS.out.a d7 (Nat.le_refl _) HV.out.size
  obtain ⟨v7, S7⟩ := HS.out.didA d7
  replace HS := Lib.hid S7
  replace HV := Lib.hid (HV.out.trans b7)
  replace HB := Lib.hid (HB.out.trans (b7.mono HWS.out))
  clear d7 s7 S7 b7 hs7 HL
  obtain ⟨z1, hz1⟩ : ∃ z1, zs7.set 0 0 = z1 := ⟨_, rfl⟩
  rw [hz1] at HS
  have HZ1 := Lib.hid (show z1.length = L by rw [← hz1, List.length_set, HSW.out.ok.len]; exact HN.out.2.2.1)
  have C := cells1 (show Mem1 w7 w1.heap.size p (L : Int) z1 st7 from ⟨_, HS.out.a⟩)
  rw [HZ1.out] at C
  have HC := Lib.hid C
  clear C
  go_wp2_with fail
  with_reducible refine HC.out.mono ?_
  clear HC
  rintro e w8 ⟨rfl, o8, b8⟩
  have HR1 := Lib.hid (reads_own o8)
  have HP := Lib.hid (MP.new HS.out b8 (Nat.le_refl _) (o8.lt _ rfl).2)
  replace HB := Lib.hid (HB.out.trans (b8.mono HB.out.size))
  replace HV := Lib.hid (HV.out.trans (b8.mono HV.out.size))
  clear o8 b8 HS
  generalize w7.heap.size = g1' at *
  have C := Lib.hid (allOk HP.out.m.a (by rw [← hz1]; exact HSW.out.ok.lock 0) (by have := HN.out; omega) ag 50 (by have := HS7.out; omega) (by have := HS7.out; have := HN.out; omega))
  have cl := HLW.out _ HV.out
  go_wp2_with fail
  rw [hag]
  with_reducible refine C.out.mono ?_
  clear C cl
  rintro e w9 ⟨T9, k9, zs9, st9, rfl, _, _, d9, hs9, s9⟩
  rw [show thN T9 = .agg #[.int .i64 T9.ti, .int .i64 T9.pc, .int .i64 T9.rc, .int .i64 T9.sq, .int .i64 T9.wo, .int .i64 T9.lk, .int .i64 T9.cu, .int .i64 T9.pv, .int .i64 T9.nt, .int .i64 T9.mx, .int .i64 T9.ps, .int .i64 T9.rn, .slice none 0 0] from rfl]
  rw [← hz1] at s9
  rw [twice_same HOS.out HSW.out s9, hz1] at d9
  have b9 := Did.under HP.out.m.a d9 (Nat.le_refl _) HV.out.size
  obtain ⟨⟨v9, S9⟩, e9⟩ := HP.out.didA d9
  replace HR1 := Lib.hid (Reads.blk HR1.out S9.lt e9)
  replace HP := Lib.hid S9
  replace HV := Lib.hid (HV.out.trans b9)
  replace HB := Lib.hid (HB.out.trans (b9.mono HWS.out))
  clear d9 s9 S9 b9 hs9 e9
  have C := Lib.hid (allOk HP.out.m.b HOK.out (by have := HN.out; omega) (ag + mr) 50 (by omega) (by have := HN.out; omega))
  have cl := HLW.out _ HV.out
  go_wp2_with fail
  rw [hag, hmr]
  with_reducible refine C.out.mono ?_
  clear C cl
  rintro e wA ⟨TA, kA, zsA, stA, rfl, _, _, dA, hsA, sA⟩
  rw [show thN TA = .agg #[.int .i64 TA.ti, .int .i64 TA.pc, .int .i64 TA.rc, .int .i64 TA.sq, .int .i64 TA.wo, .int .i64 TA.lk, .int .i64 TA.cu, .int .i64 TA.pv, .int .i64 TA.nt, .int .i64 TA.mx, .int .i64 TA.ps, .int .i64 TA.rn, .slice none 0 0] from rfl]
  have HSA := Lib.hid sA
  have bA := Did.under HP.out.m.b dA HP.out.m.le HV.out.size
  obtain ⟨⟨vA, SA⟩, eA⟩ := HP.out.didB dA
  replace HR1 := Lib.hid (Reads.blk HR1.out SA.lt eA)
  replace HP := Lib.hid SA
  replace HV := Lib.hid (HV.out.trans bA)
  replace HB := Lib.hid (HB.out.trans (bA.mono HWS.out))
  clear dA sA SA bA hsA eA HL0 HLW
  obtain ⟨z3, hz3⟩ : ∃ z3, zsA.set 0 0 = z3 := ⟨_, rfl⟩
  rw [hz3] at HP
  have HZ3 := Lib.hid (show z3.length = L by rw [← hz3, List.length_set, HSA.out.ok.len]; exact HN.out.2.2.1)
  have C := cells1 (show Mem1 wA w1.heap.size p (L : Int) z1 st9 from ⟨_, HP.out.m.a⟩)
  rw [HZ1.out] at C
  have HC := Lib.hid C
  clear C
  go_wp2_with fail
  with_reducible refine HC.out.mono ?_
  clear HC
  rintro e wB ⟨rfl, oB, bB⟩
  have HR2 := Lib.hid (reads_own oB)
  replace HR1 := Lib.hid (HR1.out.keep bB)
  replace HP := Lib.hid (HP.out.fresh bB)
  replace HB := Lib.hid (HB.out.trans (bB.mono HB.out.size))
  clear oB bB HV
  generalize wA.heap.size = g2' at *
  have C := memoryTwo wB (some ⟨g1', 0, none⟩) L L z1 HR1.out (by have := HN.out; omega)
  unfold MadeT at C
  rw [HZ1.out] at C
  have HC := Lib.hid C
  clear C
  go_wp2_with fail
  with_reducible refine HC.out.mono ?_
  clear HC
  rintro e wC ⟨pC, uC, vC, rfl, mC, oC, nC, bC⟩
  obtain ⟨aC, cC, rfl⟩ := ownShape oC
  have HOC := Lib.hid oC
  replace HR1 := Lib.hid (HR1.out.keep bC)
  replace HR2 := Lib.hid (HR2.out.keep bC)
  replace HP := Lib.hid (HP.out.fresh bC)
  replace HB := Lib.hid (HB.out.trans (bC.mono HB.out.size))
  clear mC oC nC bC
  go_upto_region 12 with (fail)
  generalize hW : wC.alloc (.cells #[.int .i64 (L : Int), .slice aC L cC, .int .i64 (1 + (L : Int))] 39) = WD
  have ff : Below wC.heap.size wC WD := by subst hW; exact (Below.refl _ _).alloc (Nat.le_refl _) _
  have HXC := Lib.hid (show Boxed WD wC.heap.size (.int .i64 (L : Int)) (.slice aC L cC) (.int .i64 (1 + (L : Int))) by subst hW; exact Boxed.new _ _ _ _)
  replace HOC := Lib.hid (own_keep HOC.out ff)
  replace HR1 := Lib.hid (HR1.out.keep ff)
  replace HR2 := Lib.hid (HR2.out.keep ff)
  replace HP := Lib.hid (HP.out.fresh ff)
  replace HB := Lib.hid (HB.out.trans (ff.mono HB.out.size))
  clear ff hW
  generalize wC.heap.size = gC at *
  have C := cells1 (show Mem1 WD _ q (L : Int) z3 stA from ⟨_, HP.out.m.b⟩)
  rw [HZ3.out] at C
  have HC := Lib.hid C
  clear C
  go_wp2_with fail
  with_reducible refine HC.out.mono ?_
  clear HC
  rintro e wE ⟨rfl, oE, bE⟩
  have HR3 := Lib.hid (reads_own oE)
  replace HOC := Lib.hid (own_keep HOC.out bE)
  replace HXC := Lib.hid (HXC.out.keep bE)
  replace HR1 := Lib.hid (HR1.out.keep bE)
  replace HR2 := Lib.hid (HR2.out.keep bE)
  replace HB := Lib.hid (HB.out.trans (bE.mono HB.out.size))
  clear oE bE HP
  generalize WD.heap.size = g3' at *
  have C := memoryTwo wE (some ⟨g3', 0, none⟩) L L z3 HR3.out (by have := HN.out; omega)
  unfold MadeT at C
  rw [HZ3.out] at C
  have HC := Lib.hid C
  clear C
  go_wp2_with fail
  with_reducible refine HC.out.mono ?_
  clear HC
  rintro e wF ⟨pF, uF, vF, rfl, mF, oF, nF, bF⟩
  obtain ⟨aF, cF, rfl⟩ := ownShape oF
  have HOF := Lib.hid oF
  replace HOC := Lib.hid (own_keep HOC.out bF)
  replace HXC := Lib.hid (HXC.out.keep bF)
  replace HR1 := Lib.hid (HR1.out.keep bF)
  replace HR2 := Lib.hid (HR2.out.keep bF)
  replace HB := Lib.hid (HB.out.trans (bF.mono HB.out.size))
  clear mF oF nF bF HR3
  go_upto_region 13 with (fail)
  generalize hW : wF.alloc (.cells #[.int .i64 (L : Int), .slice aF L cF, .int .i64 (1 + (L : Int))] 39) = WG
  have ff : Below wF.heap.size wF WG := by subst hW; exact (Below.refl _ _).alloc (Nat.le_refl _) _
  have HXF := Lib.hid (show Boxed WG wF.heap.size (.int .i64 (L : Int)) (.slice aF L cF) (.int .i64 (1 + (L : Int))) by subst hW; exact Boxed.new _ _ _ _)
  replace HOF := Lib.hid (own_keep HOF.out ff)
  replace HOC := Lib.hid (own_keep HOC.out ff)
  replace HXC := Lib.hid (HXC.out.keep ff)
  replace HR1 := Lib.hid (HR1.out.keep ff)
  replace HR2 := Lib.hid (HR2.out.keep ff)
  replace HB := Lib.hid (HB.out.trans (ff.mono HB.out.size))
  clear ff hW
  generalize wF.heap.size = gF at *
  have HP1 := Lib.hid (show Path z1 (swP ag 50 zs os 0) false by rw [← hz1]; exact (HSW.out.ok.lock 0).path)
  have HP3 := Lib.hid (show Path z3 (swP (ag + mr) 50 zs os 0) false by rw [← hz3]; exact (HSA.out.ok.lock 0).path)
  have HQ := Lib.hid (show (swP ag 50 zs os 0).length ≤ 9 ∧ (swP (ag + mr) 50 zs os 0).length ≤ 9 from ⟨by have := HSW.out.ok.os.le; have := HN.out; omega, by have := HSA.out.ok.os.le; have := HN.out; omega⟩)
  have HLEN := Lib.hid (twice_len (ps := os) (zs := zs) (P := 50) (show ag ≤ ag + mr by omega))
  have HMEM := Lib.hid (fun a (ha : a ∈ swP ag 50 zs os 0) => twice_mem (ps := os) (zs := zs) (P := 50) (show ag ≤ ag + mr by omega) ha)
  clear HSW HSA HOK HOS HZ2 hz1 hz3 g0 g1 r0 r1 hag hmr HAG HS7 HLE
  generalize swP ag 50 zs os 0 = p1 at *
  generalize swP (ag + mr) 50 zs os 0 = p3 at *
  have C := refReach (size := (L : Int)) (st := 1 + (L : Int)) (u := .slice aC L cC) (zs := z1) (by have := HOC.out; rwa [← HZ1.out] at this ⊢) (by rw [HZ1.out]; have := HN.out; omega) HP1.out
  have HC := Lib.hid C
  have d0 := HXC.out.c0
  have d1 := HXC.out.c1
  have d2 := HXC.out.c2
  clear C
  go_wp2_with fail
  with_reducible refine HC.out.mono ?_
  clear HC d0 d1 d2
  rintro e wH ⟨vH, rfl, hv⟩
  simp only [Bool.false_eq_true, if_false, Bool.not_false] at hv ⊢
  obtain ⟨aH, cH, rfl, rH, bH⟩ := hv
  have HRH := Lib.hid rH
  replace HOF := Lib.hid (own_keep HOF.out bH)
  replace HXF := Lib.hid (HXF.out.keep bH)
  replace HR1 := Lib.hid (HR1.out.keep bH)
  replace HR2 := Lib.hid (HR2.out.keep bH)
  replace HB := Lib.hid (HB.out.trans (bH.mono HB.out.size))
  clear rH bH HOC HXC
  have C := refReach (size := (L : Int)) (st := 1 + (L : Int)) (u := .slice aF L cF) (zs := z3) (by have := HOF.out; rwa [← HZ3.out] at this ⊢) (by rw [HZ3.out]; have := HN.out; omega) HP3.out
  have HC := Lib.hid C
  have d0 := HXF.out.c0
  have d1 := HXF.out.c1
  have d2 := HXF.out.c2
  clear C
  go_wp2_with fail
  with_reducible refine HC.out.mono ?_
  clear HC d0 d1 d2
  rintro e wI ⟨vI, rfl, hv⟩
  simp only [Bool.false_eq_true, if_false, Bool.not_false] at hv ⊢
  obtain ⟨aI, cI, rfl, rI, bI⟩ := hv
  have HRI := Lib.hid rI
  replace HRH := Lib.hid (HRH.out.keep bI)
  replace HR1 := Lib.hid (HR1.out.keep bI)
  replace HR2 := Lib.hid (HR2.out.keep bI)
  replace HB := Lib.hid (HB.out.trans (bI.mono HB.out.size))
  clear rI bI HOF HXF HP1 HP3
  rw [ints_len] at HRH HRI ⊢
  rw [ints_len]
  obtain ⟨l1, hl1⟩ : ∃ k, p1.length = k := ⟨_, rfl⟩
  obtain ⟨l3, hl3⟩ : ∃ k, p3.length = k := ⟨_, rfl⟩
  rw [hl1, hl3] at HLEN HQ ⊢
  rw [hl1] at HRH
  rw [hl3] at HRI
  have HL1 := Lib.hid hl1
  have lq := HQ.out.1
  have lq3 := HQ.out.2
  have lqi : (l1 : Int) ≤ 9 := by omega
  have hle : ((l1 : Int) ≤ (l3 : Int)) := by have := HLEN.out; omega
  clear hl1 hl3
  go_wp2
  go_loopw [25] (fun kv wr => ∃ k : Nat, k ≤ l1 ∧ kv = .int .i64 (k : Int) ∧ Hid (Below wI.heap.size wI wr)) (fun kv _ => l1 - (intOf kv).toNat)
  case atStart => exact ⟨0, Nat.zero_le _, rfl, Lib.hid (Below.refl _ _)⟩
  case round =>
    obtain ⟨k, hk, rfl, hw⟩ := hrel
    have HW : Hid (Below wI.heap.size wI wr) := hw
    clear hw
    by_cases hlt : k < l1
    · have hlt' : (k : Int) < l1 := by omega
      have HLT := Lib.hid hlt
      obtain ⟨b, o, rfl, hlb, hc⟩ := (HRH.out.keep HW.out).2 (by omega)
      have c1 := hc k hlt
      have hx : (ints p1).getD k 0 = ((p1.getD k 0 : Nat) : Int) := ints_getD p1 (by rw [HL1.out]; exact hlt)
      rw [hx] at c1
      have hin : ((p1.getD k 0 : Nat) : Int) ∈ ints p3 := ints_in (HMEM.out _ (getD_mem (by rw [HL1.out]; exact hlt)))
      generalize p1.getD k 0 = d at *
      have C := Lib.hid (refPlace wr aI l3 cI (ints p3) (HRI.out.keep HW.out) (by omega) (d : Int))
      have HIN := Lib.hid hin
      clear hc hx hin hlt
      go_wp2_with fail
      with_reducible refine C.out.mono ?_
      clear C
      rintro e w' ⟨i, rfl, hi, hy, _, hb⟩
      have i0 : 0 ≤ i := hy HIN.out
      have i1 : decide (i < 0) = false := decide_eq_false (by omega)
      have HB9 := Lib.hid (HW.out.trans (hb.mono HW.out.size))
      clear hy hb hi c1
      go_wp2
      go_roundw
      case rel => exact ⟨k + 1, by have := HLT.out; omega, by go_num, HB9⟩
      case measure => have := HLT.out; simp [intOf]; omega
    · have hlt' : ¬ (k : Int) < l1 := by omega
      clear hlt
      go_wp2_with fail
      refine (known wr).mono ?_
      rintro e w8 ⟨rfl, b8⟩
      have HX := Lib.hid (HW.out.trans (b8.mono HW.out.size))
      have C := Lib.hid (sameEq w8 (some ⟨g1', 0, none⟩) (some ⟨g2', 0, none⟩) L L L z1 (HR1.out.keep HX.out) (HR2.out.keep HX.out) (by have := HN.out; omega))
      clear b8
      go_wp2_with fail
      with_reducible refine C.out.mono ?_
      clear C
      rintro e w9 ⟨rfl, b9⟩
      have HY := Lib.hid (HX.out.trans (b9.mono HX.out.size))
      have HBY := Lib.hid (HB.out.trans (HY.out.mono HB.out.size))
      clear b9
      go_wp2
      go_ret
      exact ⟨by simp [hle], HBY.out⟩

end Go.Proofs.Ytfnjbbokbdddpaa.M2
