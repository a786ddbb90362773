/-
  The walk of SweepLate: for all lists of bytes and all numbers it answers true and leaves all old memory as it was.
-/
import Derived.Test.YtfnjbbokbdddpaaLatPl17m
import Derived.Deep.CutBlock
import Derived.Deep.CutRange
namespace Go.Proofs.Ytfnjbbokbdddpaa.M2
open Go.RowKit

theorem onAt {W : World} {g m i : Nat} {os : List Nat} (h : Reads .i64 W (some ⟨g, 0, none⟩) m (ints os)) (hm : os.length = m) (hi : i < m) : W.cell? ⟨g, i, none⟩ = some (.int .i64 ((os.getD i 0 : Nat) : Int)) := by
  obtain ⟨b, o, e, hl, hc⟩ := h.2 (by omega)
  simp only [Option.some.injEq, Addr.mk.injEq] at e
  obtain ⟨rfl, rfl, _⟩ := e
  have := hc i hi
  rw [Nat.zero_add, ints_getD os (by omega)] at this
  exact this

def LtR (w : World) (gl g m n : Nat) (os : List Nat) (k : Nat) (wr : World) : Prop :=
  ∃ zs : List Int, Ok n os zs ∧ zs.getD (os.getD 1 0) 0 = 0 ∧ zs.getD (os.getD 1 0 + 1) 0 = 1 ∧ (2 ≤ k → zs.getD (os.getD 1 0 + 2) 0 = 0) ∧ LW w gl g m os zs wr

structure LtS (W1 : World) (p gt L : Nat) (T : Th) (Zc : List Int) (st : Int) (W : World) : Prop where
  m : Mem1 W W1.heap.size p (L : Int) Zc st
  x : TX W gt T (.slice none 0 0)
  b : Below W1.heap.size W1 W
  gl : W1.heap.size ≤ gt
theorem LtS.fresh {W1 W W' : World} {p gt L : Nat} {T : Th} {Zc : List Int} {st : Int} (h : LtS W1 p gt L T Zc st W) (hb : Below W.heap.size W W') : LtS W1 p gt L T Zc st W' := ⟨h.m.keep hb, h.x.keep hb, h.b.trans (hb.mono h.b.size), h.gl⟩
theorem LtS.swap {W1 W : World} {p gt L : Nat} {T : Th} {Zc : List Int} {st : Int} (h : LtS W1 p gt L T Zc st W) (a o x : Int) (k0 : 0 ≤ st) (k1 : st < 1000000) :
    Calls Try.prog 25 #[.pointer (some ⟨p, 0, none⟩), .int .i64 a, .int .i64 o, .int .i64 x] W fun e w' => e = .returned (.tuple #[.bool (swb Zc a o), .int .u16 (ce Zc a)]) ∧ LtS W1 p gt L T (swp Zc a o x) (st + cn Zc a) w' := by
  obtain ⟨v, m⟩ := h.m
  exact (swapD m a o x k0 k1).mono fun e w' ⟨he, d⟩ => ⟨he, (d.one m).1, h.x.off (d.kept m), h.b.trans (d.one m).2, h.gl⟩

set_option maxRecDepth 100000 in
set_option maxHeartbeats 16000000 in
theorem lateWalk {w : World} (ac : Option Addr) (nc cc : Nat) (xs : List Int) (many wh wv : Int) (hx : ArgBytes w ac nc cc xs) (hnc : nc ≤ 140737488351232) (k0 : 0 ≤ many) (k1 : many ≤ 255) (a0 : 0 ≤ wh) (a1 : wh ≤ 255) (_ : -9223372036854775808 ≤ wv) (_ : wv ≤ 9223372036854775807) :
    Calls Try.prog 7 #[.slice ac nc cc, .int .u8 many, .int .u8 wh, .int .i64 wv] w fun e w' => e = .returned (.bool true) ∧ Below w.heap.size w w' := by
  have C := chainAny w ac nc cc xs hx hnc (2 + many % 9) (by omega) (by omega)
  clear hx
  go_enter Try.func7, Try.ntmps7
  go_wp2_with fail
  refine C.mono ?_
  clear C
  rintro e w1 ⟨n, os, zs, gl, g, c, rfl, ⟨hn1, hn9⟩, hol, hos, hch, hlw, hbl, hgl, hoc⟩
  have hzl := hch.len
  have hle := hos.le
  obtain ⟨L, hL⟩ : ∃ L, 3 + 5 * n = L := ⟨_, rfl⟩
  obtain ⟨m, hm⟩ : ∃ m, os.length = m := ⟨_, rfl⟩
  have HN := Lib.hid (show (1 ≤ n ∧ n ≤ 9) ∧ m ≤ n ∧ 3 + 5 * n = L ∧ m ≤ c by omega)
  have HB0 := Lib.hid hlw.2.2
  have OUT : True := trivial
  by_cases h2 : m < 2
  · have h2i : (m : Int) < 2 := by omega
    rw [hm, hL]
    clear hch hlw hos hol hzl hbl hgl hoc hle hL hm hn1 hn9
    go_wp2_with fail
    refine (known w1).mono ?_
    rintro e w8 ⟨rfl, b8⟩
    have HX := Lib.hid (HB0.out.trans (b8.mono HB0.out.size))
    clear b8
    go_wp2
    go_ret
    exact ⟨rfl, HX.out⟩
  by_cases hwv : wv ≤ 0
  · have h2i : (2 : Int) ≤ (m : Int) := by omega
    rw [hm, hL]
    clear hch hlw hos hol hzl hbl hgl hoc hle hL hm hn1 hn9
    go_wp2_with fail
    refine (known w1).mono ?_
    rintro e w8 ⟨rfl, b8⟩
    have HX := Lib.hid (HB0.out.trans (b8.mono HB0.out.size))
    clear b8
    go_wp2
    go_ret
    exact ⟨rfl, HX.out⟩
  have h2i : (2 : Int) ≤ (m : Int) := by omega
  have hwi : (0 : Int) < wv := by omega
  have h2m : 2 ≤ os.length := by omega
  have HT0 := Lib.hid (show LtR w gl g m n os 0 w1 from by
    refine ⟨zs, Ok.start hch hos, hch.req hos (t := 1) (by omega), hch.act hos (t := 1) (by omega), fun h => by omega, by rw [← hm]; exact hlw⟩)
  have HOS := Lib.hid hos
  have HM := Lib.hid hm
  have HG := Lib.hid (And.intro hbl hgl)
  have H2M := Lib.hid h2m
  have HWV := Lib.hid hwi
  rw [hm, hL]
  have m9 : (m : Int) ≤ 9 := by omega
  clear hch hlw hos hol hzl hbl hgl hoc hle hL hm hn1 hn9 h2 hwv h2m HB0 OUT
  go_upto_block 0 with (fail)
  go_cut [11] from 41 to 53 (fun kv wx => (∃ k : Int, kv = .int .i64 k) ∧ Hid (LtR w gl g m n os m wx))
  case first =>
    go_wp2
    go_loopw [11] (fun kv wr => ∃ k : Nat, k ≤ m ∧ kv = .int .i64 (k : Int) ∧ Hid (LtR w gl g m n os k wr)) (fun kv _ => m - (intOf kv).toNat)
    case atStart => exact ⟨0, Nat.zero_le _, rfl, HT0⟩
    case round =>
      obtain ⟨k, hk, rfl, hw⟩ := hrel
      clear HT0
      have HR : Hid (LtR w gl g m n os k wr) := hw
      clear hw
      by_cases hlt : k < m
      · have h1i : (k : Int) < m := by omega
        have HK := Lib.hid hlt
        obtain ⟨z, hok, hz0, hz1, hz2, hlw⟩ := HR.out
        have c1 := onAt hlw.2.1 HM.out hlt
        obtain ⟨q, hq, eq⟩ := HOS.out.at (t := k) (by rw [HM.out]; exact hlt)
        obtain ⟨r, hr, er⟩ := HOS.out.at (t := 1) (by rw [HM.out]; omega)
        have HNX := Lib.hid (show LtR w gl g m n os (k + 1) (wr.setCell ⟨gl, os.getD k 0 + 2, none⟩ (.int .i64 0)) from by
          refine ⟨z.set (os.getD k 0 + 2) 0, hok.ageSet (by rw [HM.out]; exact hlt) 0, ?_, ?_, fun h => ?_, hlw.store HG.out.1 HG.out.2 0⟩
          · rw [getD_set, if_neg (by omega)]; exact hz0
          · rw [getD_set, if_neg (by omega)]; exact hz1
          · rw [getD_set]
            split
            · rfl
            · rename_i hne
              refine hz2 ?_
              by_cases e1 : k = 1
              · subst e1; exact absurd ⟨rfl, by rw [hok.len]; omega⟩ hne
              · omega)
        have hcz := hlw.1.cell (i := os.getD k 0 + 2) (by rw [hok.len]; omega)
        have hf : ∀ o, wr.frozen? ⟨gl, o, none⟩ = false := fun o => hlw.1.f o
        obtain ⟨d, hdd⟩ : ∃ d, os.getD k 0 + 2 = d := ⟨_, rfl⟩
        rw [hdd] at hcz HNX
        have dL : d < L := by have := HN.out; omega
        have dLi : (d : Int) < (L : Int) := by omega
        have hL48 : (L : Int) ≤ 48 := by have := HN.out; omega
        have hw1 : ((os.getD k 0 : Nat) : Int) + 2 = (d : Int) := by omega
        have hw2 : wrap64 (((os.getD k 0 : Nat) : Int) + 2) = (d : Int) := by rw [← IntWalk.i64_left, hw1]; exact IntWalk.i64_in _ (by omega)
        have hw3 : IntKind.i64.wrap (((os.getD k 0 : Nat) : Int) + 2) = (d : Int) := by rw [hw1]; exact IntWalk.i64_in _ (by omega)
        generalize z.getD d 0 = zo at *
        generalize os.getD k 0 = dk at *
        clear hok hz0 hz1 hz2 hlw hq eq hdd hk hlt hr er
        go_wp2
        go_roundw
        case rel => exact ⟨k + 1, HK.out, by go_num, HNX⟩
        case measure => have := HK.out; simp [intOf]; omega
      · have hkm : k = m := by omega
        subst hkm
        clear hlt hk
        go_wp2
        go_meet
        exact ⟨⟨_, rfl⟩, HR⟩
  case' rest => skip
  obtain ⟨⟨kk, rfl⟩, hR⟩ := hcut
  obtain ⟨Z, hok, hz0, hz1, hz2, hlw⟩ := hR
  have hz2 := hz2 (by have := H2M.out; have := HM.out; omega)
  have HZF := Lib.hid (And.intro hok (And.intro hz0 (And.intro hz1 hz2)))
  have HLW := Lib.hid hlw
  clear hok hz0 hz1 hz2 hlw HT0
  obtain ⟨W1, hW1⟩ : ∃ W, W = wc := ⟨_, rfl⟩
  rw [← hW1] at HLW ⊢
  clear hW1
  have HZ := Lib.hid (show Z.length = L by rw [HZF.out.1.len]; exact HN.out.2.2.1)
  have HB := Lib.hid (show Below w.heap.size w W1 from HLW.out.2.2)
  have HWS := Lib.hid (show w.heap.size ≤ W1.heap.size from HB.out.size)
  have HL := Lib.hid (show Reads .i64 W1 (some ⟨gl, 0, none⟩) L Z by have := HLW.out.1.readsW; rwa [HZ.out] at this)
  have HO := Lib.hid (show Reads .i64 W1 (some ⟨g, 0, none⟩) m (ints os) from HLW.out.2.1)
  have C := memoryTwo W1 (some ⟨gl, 0, none⟩) L L Z HL.out (by have := HN.out; omega)
  unfold MadeT at C
  rw [HZ.out] at C
  have HC := Lib.hid C
  clear C HLW HL
  go_wp2_with fail
  with_reducible refine HC.out.mono ?_
  clear HC
  rintro e w2 ⟨p, u, v, rfl, m2, o2, n2, b2⟩
  obtain ⟨au, cu, rfl⟩ := ownShape o2
  have HM2 := Lib.hid m2
  have HV := Lib.hid b2
  clear m2 o2 b2 n2
  go_upto_region 9 with (fail)
  generalize hW : w2.alloc (.cells #[.int .i64 (L : Int), .slice au L cu, .int .i64 (1 + (L : Int))] 39) = W3
  have ff : Below w2.heap.size w2 W3 := by subst hW; exact (Below.refl _ _).alloc (Nat.le_refl _) _
  replace HM2 := Lib.hid (HM2.out.fresh ff)
  replace HV := Lib.hid (HV.out.trans (ff.mono HV.out.size))
  clear ff hW
  go_upto_region 12 with (fail)
  generalize hW : W3.alloc (.cells #[.int .i64 0, .int .i64 40, .int .i64 0, .int .i64 0, .int .i64 0, .int .i64 0, .int .i64 0, .int .i64 0, .int .i64 0, .int .i64 0, .int .i64 50, .int .i64 0, .slice none 0 0] 25) = W4
  have ff : Below W3.heap.size W3 W4 := by subst hW; exact (Below.refl _ _).alloc (Nat.le_refl _) _
  obtain ⟨t, ht⟩ : ∃ t : Th, t = { t0 with pc := 40, ps := 50 } := ⟨_, rfl⟩
  have HS := Lib.hid (show LtS W1 p W3.heap.size L t Z (1 + (L : Int)) W4 from ⟨⟨_, HM2.out.fresh ff⟩, by subst hW ht; exact TX.new W3 { t0 with pc := 40, ps := 50 } _, HV.out.trans (ff.mono HV.out.size), HV.out.size⟩)
  clear ff hW HM2 HV
  generalize W3.heap.size = gt at *
  obtain ⟨H, hH⟩ : ∃ H : Nat, (H : Int) = 1 + wh % 6 := ⟨(1 + wh % 6).toNat, by omega⟩
  have HH := Lib.hid hH
  have HH6 := Lib.hid (show 1 ≤ H ∧ H ≤ 6 by omega)
  have hp40 : t.pc = 40 := by rw [ht]
  have hs50 : t.ps = 50 := by rw [ht]
  have HLA := Lib.hid (lateAll HZF.out.1 (by have := HN.out; omega) H2M.out HZF.out.2.2.1 HZF.out.2.2.2 HZF.out.2.1 hp40 hs50 HH6.out.1 HH6.out.2 wv)
  have HLI := Lib.hid (late_in (H := H) HZF.out.1 H2M.out HZF.out.2.2.1 HZF.out.2.2.2 HZF.out.2.1 HWV.out)
  have HLO := Lib.hid (late_ok HZF.out.1 H2M.out H wv)
  have HALL := Lib.hid (sweepAll (ag := 10) (t := t) (by have := HN.out; omega) HLO.out hp40)
  rw [hs50] at HALL
  obtain ⟨Zx, hZx⟩ : ∃ Zx, lateZ Z (os.getD 1 0) H wv = Zx := ⟨_, rfl⟩
  rw [hZx] at HLA HLI HLO HALL
  clear hZx hp40 hs50 ht hH HZF
  obtain ⟨d1, hd1⟩ : ∃ d, os.getD 1 0 = d := ⟨_, rfl⟩
  have HD1 := Lib.hid hd1
  rw [hd1] at HLA HLI
  clear hd1
  go_upto_block 2 with (fail)
  go_cut [15, 16, 17] from 62 to 89 (fun kn ks kv wx => ∃ (N : Nat) (T : Th) (zs' : List Int) (st : Int), (∃ k : Int, kn = .int .i64 k) ∧ (∃ k : Int, kv = .int .i64 k) ∧ ks = .bool (decide (H ≤ 4)) ∧ Hid (LtS W1 p gt L T (zs'.set 0 0) st wx ∧ Swp n 0 10 50 os Zx zs'))
  case first =>
    go_wp2
    go_loopw [15, 16, 17] (fun kn ks kv wr => ∃ (k : Nat) (T : Th) (Zc : List Int) (st : Int), k ≤ 200 ∧ kn = .int .i64 (k : Int) ∧ kv = .int .i64 (k : Int) ∧ ks = .bool (if k ≤ H then false else decide (H ≤ 4)) ∧ Hid (LtS W1 p gt L T Zc st wr ∧ stN 10 k t (if k ≤ H then Z else Zx) = (T, Zc) ∧ (0 ≤ st ∧ st ≤ 100 + 2 * (k : Int)) ∧ ∀ j, j < k → swB (stN 10 j t Zx).1 = true)) (fun _ _ kv _ => 200 - (intOf kv).toNat)
    case atStart => exact ⟨0, t, Z, _, by omega, rfl, rfl, by rw [if_pos (Nat.zero_le _)], Lib.hid ⟨HS.out, by rw [if_pos (Nat.zero_le _)]; rfl, by have := HN.out; omega, fun j hj => by omega⟩⟩
    case round =>
      obtain ⟨k, T, Zc, st, hk, rfl, rfl, hks, hw⟩ := hrel
      obtain ⟨fb, hfb⟩ : ∃ fb, (if k ≤ H then false else decide (H ≤ 4)) = fb := ⟨_, rfl⟩
      have HFB := Lib.hid hfb
      rw [hfb] at hks
      subst hks
      clear hfb
      clear HS
      obtain ⟨hs, he, hst, hsw⟩ := hw
      have HS := Lib.hid hs
      have HE := Lib.hid he
      have HST9 := Lib.hid (show 0 ≤ st ∧ st ≤ 500 + 2 * (k : Int) ∧ st < 900000 by omega)
      have HSTB := Lib.hid hst
      have HSW := Lib.hid hsw
      have HK := Lib.hid hk
      clear hs he hst hsw
      -- who sweeps, at this round
      have HTX := Lib.hid (show T = (stN 10 k t Zx).1 by
        by_cases hkH : k ≤ H
        · have := HE.out
          rw [if_pos hkH] at this
          rw [← (HLA.out.2.2.1 k hkH), this]
        · have := HE.out
          rw [if_neg hkH] at this
          rw [this])
      obtain ⟨N, TN, zs', hrw, hN, hpN, hsN⟩ := HALL.out
      have hmm := HM.out
      have hnn := HN.out
      have hN2 : N < 200 := by omega
      have hend : swB TN = false := by unfold swB; rw [hpN]; rfl
      by_cases hlt : k < 200
      · have i1 : (k : Int) < 200 := by omega
        have HLT := Lib.hid hlt
        cases hsb : swB T with
        | false =>
          have hkH : ¬ k ≤ H := fun hkH => by
            have h1 := HE.out
            rw [if_pos hkH] at h1
            have := HLA.out.2.2.2 k hkH
            rw [h1] at this
            rw [this] at hsb
            cases hsb
          have hkN : k = N := hrw.all hN2 hend HSW.out (fun _ => by rw [← HTX.out]; exact hsb) hk
          have hfin : T = TN ∧ Zc = zs'.set 0 0 := by
            have h1 := HE.out
            rw [if_neg hkH, hkN, hrw.e] at h1
            exact ⟨(Prod.mk.inj h1).1.symm, (Prod.mk.inj h1).2.symm⟩
          have HFIN := Lib.hid (show LtS W1 p gt L T (zs'.set 0 0) st wr ∧ Swp n 0 10 50 os Zx zs' from ⟨by rw [← hfin.2]; exact HS.out, hsN⟩)
          have HFE := Lib.hid (show fb = decide (H ≤ 4) by rw [← HFB.out, if_neg hkH])
          have S := sweepsN wr T
          rw [show thN T = .agg #[.int .i64 T.ti, .int .i64 T.pc, .int .i64 T.rc, .int .i64 T.sq, .int .i64 T.wo, .int .i64 T.lk, .int .i64 T.cu, .int .i64 T.pv, .int .i64 T.nt, .int .i64 T.mx, .int .i64 T.ps, .int .i64 T.rn, .slice none 0 0] from rfl, show decide (40 ≤ T.pc ∧ T.pc ≤ 48) = swB T from rfl, hsb] at S
          have HSW2 := Lib.hid S
          have x := HS.out.x
          have c0 := x.c0
          have c1 := x.c1
          have c2 := x.c2
          have c3 := x.c3
          have c4 := x.c4
          have c5 := x.c5
          have c6 := x.c6
          have c7 := x.c7
          have c8 := x.c8
          have c9 := x.c9
          have c10 := x.c10
          have c11 := x.c11
          have c12 := x.c12
          clear x S hsb hkH hkN hfin hrw hN hpN hsN hmm hnn hN2 hend hlt hk
          go_wp2_with fail
          with_reducible refine HSW2.out.mono ?_
          clear HSW2 c0 c1 c2 c3 c4 c5 c6 c7 c8 c9 c10 c11 c12
          rintro e w6 ⟨rfl, b6⟩
          have HF6 := Lib.hid (And.intro (HFIN.out.1.fresh b6) HFIN.out.2)
          clear b6
          go_wp2
          go_meet
          exact ⟨0, T, zs', st, ⟨_, rfl⟩, ⟨_, rfl⟩, by rw [HFE.out], HF6⟩
        | true =>
          have HSB := Lib.hid hsb
          have S := sweepsN wr T
          rw [show thN T = .agg #[.int .i64 T.ti, .int .i64 T.pc, .int .i64 T.rc, .int .i64 T.sq, .int .i64 T.wo, .int .i64 T.lk, .int .i64 T.cu, .int .i64 T.pv, .int .i64 T.nt, .int .i64 T.mx, .int .i64 T.ps, .int .i64 T.rn, .slice none 0 0] from rfl, show decide (40 ≤ T.pc ∧ T.pc ≤ 48) = swB T from rfl, hsb] at S
          have HSW2 := Lib.hid S
          have x := HS.out.x
          have c0 := x.c0
          have c1 := x.c1
          have c2 := x.c2
          have c3 := x.c3
          have c4 := x.c4
          have c5 := x.c5
          have c6 := x.c6
          have c7 := x.c7
          have c8 := x.c8
          have c9 := x.c9
          have c10 := x.c10
          have c11 := x.c11
          have c12 := x.c12
          clear x S hsb hrw hN hpN hsN hmm hnn hN2 hend hlt hk
          go_wp2_with fail
          with_reducible refine HSW2.out.mono ?_
          clear HSW2 c0 c1 c2 c3 c4 c5 c6 c7 c8 c9 c10 c11 c12
          rintro e w6 ⟨rfl, b6⟩
          replace HS := Lib.hid (HS.out.fresh b6)
          clear b6
          by_cases hkH : k = H
          · have hEQ : (k : Int) = 1 + wh % 6 := by rw [hkH]; exact HH.out
            have hEQ2 : ((k : Int) == 1 + wh % 6) = true := by simpa using hEQ
            have HKH := Lib.hid hkH
            have hE := HE.out
            rw [if_pos (Nat.le_of_eq hkH)] at hE
            have hLA := HLA.out
            rw [← hkH, hE] at hLA
            have HSW4 := Lib.hid hLA.1
            have HZZ0 := Lib.hid hLA.2.1
            have C := HS.out.swap (d1 : Int) 0 wv (by have := HST9.out; omega) (by have := HST9.out; omega)
            have hb1 := hLA.1
            dsimp only at hb1
            rw [hb1] at C
            have HC := Lib.hid C
            have c1 := onAt (HO.out.keep HS.out.b) HM.out (i := 1) (by have := H2M.out; have := HM.out; omega)
            rw [HD1.out] at c1
            have h1m : 1 < m := by have := H2M.out; have := HM.out; omega
            have h1mi : (1 : Int) < (m : Int) := by omega
            obtain ⟨Zs, hZs⟩ : ∃ Zs, swp Zc (d1 : Int) 0 wv = Zs := ⟨_, rfl⟩
            have HZS := Lib.hid hZs
            rw [hZs] at HC
            clear C hE hLA hb1 hkH hZs
            go_wp2_with fail
            with_reducible refine HC.out.mono ?_
            clear HC c1
            rintro e w5 ⟨rfl, s5⟩
            replace HS := Lib.hid s5
            have HCB := Lib.hid (cn_bd Zc (d1 : Int))
            obtain ⟨sx, hsx⟩ : ∃ sx, st + cn Zc (d1 : Int) = sx := ⟨_, rfl⟩
            have HSX := Lib.hid hsx
            rw [hsx] at HS
            replace HST9 := Lib.hid (show 0 ≤ sx ∧ sx ≤ 501 + 2 * (k : Int) ∧ sx < 900001 by have := HST9.out; have := HCB.out; omega)
            clear s5 hsx
            have HTT := HTX
            have HZZ := Lib.hid (show (stN 10 k t Zx).2 = Zs by rw [← HZS.out]; have := HZZ0.out; rw [this, HKH.out])
            replace HTT := Lib.hid HTT.out.symm
            have C := Lib.hid (stepK HS.out.m 10 T (by have := HST9.out; omega) (by have := HST9.out; omega))
            have HN1 := Lib.hid (show ((swt 10 T Zs).t, (swt 10 T Zs).zs) = stN 10 (k + 1) t Zx by rw [← HTT.out, ← HZZ.out]; rfl)
            have HC1 := Lib.hid (swt_c 10 T Zs)
            obtain ⟨S, hS⟩ : ∃ S, swt 10 T Zs = S := ⟨_, rfl⟩
            rw [hS] at C HN1 HC1
            rw [show thN T = .agg #[.int .i64 T.ti, .int .i64 T.pc, .int .i64 T.rc, .int .i64 T.sq, .int .i64 T.wo, .int .i64 T.lk, .int .i64 T.cu, .int .i64 T.pv, .int .i64 T.nt, .int .i64 T.mx, .int .i64 T.ps, .int .i64 T.rn, .slice none 0 0] from rfl, show thN S.t = .agg #[.int .i64 S.t.ti, .int .i64 S.t.pc, .int .i64 S.t.rc, .int .i64 S.t.sq, .int .i64 S.t.wo, .int .i64 S.t.lk, .int .i64 S.t.cu, .int .i64 S.t.pv, .int .i64 S.t.nt, .int .i64 S.t.mx, .int .i64 S.t.ps, .int .i64 S.t.rn, .slice none 0 0] from rfl] at C
            have x := HS.out.x
            have c0 := x.c0
            have c1 := x.c1
            have c2 := x.c2
            have c3 := x.c3
            have c4 := x.c4
            have c5 := x.c5
            have c6 := x.c6
            have c7 := x.c7
            have c8 := x.c8
            have c9 := x.c9
            have c10 := x.c10
            have c11 := x.c11
            have c12 := x.c12
            clear x hS
            go_wp2_with fail
            with_reducible refine C.out.mono ?_
            clear C c0 c1 c2 c3 c4 c5 c6 c7 c8 c9 c10 c11 c12
            rintro e w7 ⟨rfl, m7, b7, k7⟩
            have x7 := HS.out.x.off k7
            have xf := x7.f
            have c0 := x7.c0
            have c1 := x7.c1
            have c2 := x7.c2
            have c3 := x7.c3
            have c4 := x7.c4
            have c5 := x7.c5
            have c6 := x7.c6
            have c7 := x7.c7
            have c8 := x7.c8
            have c9 := x7.c9
            have c10 := x7.c10
            have c11 := x7.c11
            have c12 := x7.c12
            have HS8 := Lib.hid (show LtS W1 p gt L S.t S.zs (sx + S.c) (setT w7 gt S.t (.slice none 0 0)) from
              ⟨m7.setT x7 _ _, x7.all _ _, setT_below (HS.out.b.trans b7) HS.out.gl _ _, HS.out.gl⟩)
            clear m7 b7 k7 x7
            go_upto_region 20 with (fail)
            change Code.wp _ _ _ _ (setT w7 gt S.t (.slice none 0 0))
            clear c0 c1 c2 c3 c4 c5 c6 c7 c8 c9 c10 c11 c12 xf
            go_wp2
            go_roundw
            case rel => exact ⟨k + 1, S.t, S.zs, _, by have := HLT.out; omega, by go_num, by go_num, by rw [if_neg (by have := HKH.out; omega), HKH.out], Lib.hid ⟨HS8.out, by rw [if_neg (by have := HKH.out; omega)]; exact HN1.out.symm, by have := HC1.out; have := HSTB.out; have := HCB.out; have := HSX.out; omega, fun j hj => by
              by_cases e : j = k
              · rw [e, ← HTX.out]; exact HSB.out
              · exact HSW.out j (by omega)⟩⟩
            case measure => have := HLT.out; simp [intOf]; omega
          · have hNE : ¬ (k : Int) = 1 + wh % 6 := by rw [← HH.out]; omega
            have hNE2 : ((k : Int) == 1 + wh % 6) = false := by simpa using hNE
            have HKH := Lib.hid hkH
            obtain ⟨Zy, hZy⟩ : ∃ Zy, (if k ≤ H then Z else Zx) = Zy := ⟨_, rfl⟩
            have HZY := Lib.hid hZy
            have hE := HE.out
            rw [hZy] at hE
            have HTT := Lib.hid (show (stN 10 k t Zy).1 = T by rw [hE])
            have HZZ := Lib.hid (show (stN 10 k t Zy).2 = Zc by rw [hE])
            clear hE hkH hZy
            have C := Lib.hid (stepK HS.out.m 10 T (by have := HST9.out; omega) (by have := HST9.out; omega))
            have HN1 := Lib.hid (show ((swt 10 T Zc).t, (swt 10 T Zc).zs) = stN 10 (k + 1) t Zy by rw [← HTT.out, ← HZZ.out]; rfl)
            have HC1 := Lib.hid (swt_c 10 T Zc)
            obtain ⟨S, hS⟩ : ∃ S, swt 10 T Zc = S := ⟨_, rfl⟩
            rw [hS] at C HN1 HC1
            rw [show thN T = .agg #[.int .i64 T.ti, .int .i64 T.pc, .int .i64 T.rc, .int .i64 T.sq, .int .i64 T.wo, .int .i64 T.lk, .int .i64 T.cu, .int .i64 T.pv, .int .i64 T.nt, .int .i64 T.mx, .int .i64 T.ps, .int .i64 T.rn, .slice none 0 0] from rfl, show thN S.t = .agg #[.int .i64 S.t.ti, .int .i64 S.t.pc, .int .i64 S.t.rc, .int .i64 S.t.sq, .int .i64 S.t.wo, .int .i64 S.t.lk, .int .i64 S.t.cu, .int .i64 S.t.pv, .int .i64 S.t.nt, .int .i64 S.t.mx, .int .i64 S.t.ps, .int .i64 S.t.rn, .slice none 0 0] from rfl] at C
            have x := HS.out.x
            have c0 := x.c0
            have c1 := x.c1
            have c2 := x.c2
            have c3 := x.c3
            have c4 := x.c4
            have c5 := x.c5
            have c6 := x.c6
            have c7 := x.c7
            have c8 := x.c8
            have c9 := x.c9
            have c10 := x.c10
            have c11 := x.c11
            have c12 := x.c12
            clear x hS
            go_wp2_with fail
            with_reducible refine C.out.mono ?_
            clear C c0 c1 c2 c3 c4 c5 c6 c7 c8 c9 c10 c11 c12
            rintro e w7 ⟨rfl, m7, b7, k7⟩
            have x7 := HS.out.x.off k7
            have xf := x7.f
            have c0 := x7.c0
            have c1 := x7.c1
            have c2 := x7.c2
            have c3 := x7.c3
            have c4 := x7.c4
            have c5 := x7.c5
            have c6 := x7.c6
            have c7 := x7.c7
            have c8 := x7.c8
            have c9 := x7.c9
            have c10 := x7.c10
            have c11 := x7.c11
            have c12 := x7.c12
            have HS8 := Lib.hid (show LtS W1 p gt L S.t S.zs (st + S.c) (setT w7 gt S.t (.slice none 0 0)) from
              ⟨m7.setT x7 _ _, x7.all _ _, setT_below (HS.out.b.trans b7) HS.out.gl _ _, HS.out.gl⟩)
            clear m7 b7 k7 x7
            go_upto_region 20 with (fail)
            change Code.wp _ _ _ _ (setT w7 gt S.t (.slice none 0 0))
            clear c0 c1 c2 c3 c4 c5 c6 c7 c8 c9 c10 c11 c12 xf
            go_wp2
            go_roundw
            case rel => exact ⟨k + 1, S.t, S.zs, _, by have := HLT.out; omega, by go_num, by go_num, by
                rw [← HFB.out]
                by_cases e : k ≤ H
                · rw [if_pos e, if_pos (by have := HKH.out; omega)]
                · rw [if_neg e, if_neg (by omega)], Lib.hid ⟨HS8.out, by
                  rw [show (if k + 1 ≤ H then Z else Zx) = Zy by
                    rw [← HZY.out]
                    by_cases e : k ≤ H
                    · rw [if_pos e, if_pos (by have := HKH.out; omega)]
                    · rw [if_neg e, if_neg (by omega)]]
                  exact HN1.out.symm, by have := HC1.out; have := HSTB.out; omega, fun j hj => by
              by_cases e : j = k
              · rw [e, ← HTX.out]; exact HSB.out
              · exact HSW.out j (by omega)⟩⟩
            case measure => have := HLT.out; simp [intOf]; omega
      · exfalso
        have hk2 : k = 200 := by omega
        have := HSW.out N (by omega)
        rw [hrw.e, hend] at this
        cases this
  case' rest => skip
  obtain ⟨_, T, zs', st, ⟨kn, rfl⟩, ⟨kv, rfl⟩, rfl, hF⟩ := hcut
  have HS9 := Lib.hid hF.1
  have HSW9 := Lib.hid hF.2
  clear hF HALL HLA HS
  obtain ⟨now, hnow⟩ : ∃ z1, zs'.set 0 0 = z1 := ⟨_, rfl⟩
  rw [hnow] at HS9
  have HNL := Lib.hid (show now.length = L by rw [← hnow, List.length_set, HSW9.out.ok.len]; exact HN.out.2.2.1)
  have HPth := Lib.hid (show Path now (swP 10 50 Zx os 0) false by rw [← hnow]; exact (HSW9.out.ok.lock 0).path)
  have HP9 := Lib.hid (show (swP 10 50 Zx os 0).length ≤ 9 by have := swP_le 10 50 Zx os 0; have := HM.out; have := HN.out; omega)
  clear hnow HSW9 HLO
  generalize swP 10 50 Zx os 0 = pk at *
  have C := cells1 HS9.out.m
  rw [HNL.out] at C
  have HC := Lib.hid C
  clear C
  go_wp2_with fail
  with_reducible refine HC.out.mono ?_
  clear HC
  rintro e w8 ⟨rfl, o8, b8⟩
  have HRC := Lib.hid (reads_own o8)
  have HV := Lib.hid (HS9.out.b.trans (b8.mono HS9.out.b.size))
  clear o8 b8 HS9
  have C := memoryTwo w8 _ L L now HRC.out (by have := HN.out; omega)
  unfold MadeT at C
  rw [HNL.out] at C
  have HC := Lib.hid C
  clear C
  go_wp2_with fail
  with_reducible refine HC.out.mono ?_
  clear HC
  rintro e wC ⟨pC, uC, vC, rfl, mC, oC, nC, bC⟩
  obtain ⟨aC, cC, rfl⟩ := ownShape oC
  have HOC := Lib.hid oC
  replace HV := Lib.hid (HV.out.trans (bC.mono HV.out.size))
  clear mC oC nC bC HRC
  go_upto_region 22 with (fail)
  generalize hW : wC.alloc (.cells #[.int .i64 (L : Int), .slice aC L cC, .int .i64 (1 + (L : Int))] 39) = WD
  have ff : Below wC.heap.size wC WD := by subst hW; exact (Below.refl _ _).alloc (Nat.le_refl _) _
  have HX := Lib.hid (show Boxed WD wC.heap.size (.int .i64 (L : Int)) (.slice aC L cC) (.int .i64 (1 + (L : Int))) by subst hW; exact Boxed.new _ _ _ _)
  replace HOC := Lib.hid (own_keep HOC.out ff)
  replace HV := Lib.hid (HV.out.trans (ff.mono HV.out.size))
  clear ff hW
  generalize wC.heap.size = gD at *
  have C := refReach (size := (L : Int)) (st := 1 + (L : Int)) (u := .slice aC L cC) (zs := now) (by have := HOC.out; rwa [← HNL.out] at this ⊢) (by rw [HNL.out]; have := HN.out; omega) HPth.out
  have HC := Lib.hid C
  have d0 := HX.out.c0
  have d1' := HX.out.c1
  have d2 := HX.out.c2
  clear C
  go_wp2_with fail
  with_reducible refine HC.out.mono ?_
  clear HC d0 d1' d2
  rintro e wA ⟨vA, rfl, hv⟩
  simp only [Bool.false_eq_true, if_false, Bool.not_false] at hv ⊢
  obtain ⟨aA, cA, rfl, rA, bA⟩ := hv
  rw [ints_len] at rA ⊢
  have HRA := Lib.hid rA
  replace HV := Lib.hid (HV.out.trans (bA.mono HV.out.size))
  clear rA bA HX HOC HPth
  have h1m : 1 < m := by have := H2M.out; have := HM.out; omega
  have h1mi : (1 : Int) < (m : Int) := by omega
  have h0m : 0 < m := by omega
  have h0mi : (0 : Int) < (m : Int) := by omega
  have c1 := onAt (HO.out.keep HV.out) HM.out h1m
  rw [HD1.out] at c1
  have hEarly : decide (1 + wh % 6 ≤ 4) = decide (H ≤ 4) := by
    rw [← HH.out]
    by_cases h4 : H ≤ 4
    · rw [decide_eq_true h4]; exact decide_eq_true (by omega)
    · rw [decide_eq_false h4]; exact decide_eq_false (by omega)
  have C := Lib.hid (refPlace wA aA pk.length cA (ints pk) HRA.out (by have := HP9.out; omega) (d1 : Int))
  go_wp2_with fail
  with_reducible refine C.out.mono ?_
  clear C c1
  rintro e wB ⟨i, rfl, hi, hy, hn, hb⟩
  have hstay : decide (0 ≤ i) = decide (H ≤ 4) := by
    by_cases h4 : H ≤ 4
    · rw [decide_eq_true h4]; exact decide_eq_true (hy (ints_in (HLI.out.1.2 h4)))
    · rw [decide_eq_false h4]
      have h5 : (d1 : Int) ∉ ints pk := fun hm => h4 (HLI.out.1.1 (by
        obtain ⟨a, ha, e⟩ := List.mem_map.1 hm
        have : a = d1 := by have e : (a : Int) = (d1 : Int) := e; omega
        rwa [← this]))
      rw [hn h5]
      decide
  have HST := Lib.hid (show (decide (i ≥ 0)) = decide (H ≤ 4) from hstay)
  replace HV := Lib.hid (HV.out.trans (hb.mono HV.out.size))
  replace HRA := Lib.hid (HRA.out.keep hb)
  clear hy hn hb hi
  obtain ⟨E, hE⟩ : ∃ E, decide (H ≤ 4) = E := ⟨_, rfl⟩
  rw [hE] at HST hEarly hstay ⊢
  clear hE
  go_wp2_with fail
  refine (known wB).mono ?_
  rintro e w9 ⟨rfl, b9⟩
  replace HV := Lib.hid (HV.out.trans (b9.mono HV.out.size))
  replace HRA := Lib.hid (HRA.out.keep b9)
  clear b9
  have c0 := onAt (HO.out.keep HV.out) HM.out h0m
  have C := Lib.hid (refPlace0 w9 aA pk.length cA (ints pk) HRA.out HLI.out.2.1 ((os.getD 0 0 : Nat) : Int) (by rw [ints_getD _ HLI.out.2.1, HLI.out.2.2]))
  obtain ⟨d0, hd0⟩ : ∃ d, os.getD 0 0 = d := ⟨_, rfl⟩
  rw [hd0] at c0 C
  clear hd0
  go_wp2_with fail
  with_reducible refine C.out.mono ?_
  clear C c0
  rintro e wZ ⟨rfl, bZ⟩
  have HBZ := Lib.hid (HB.out.trans ((HV.out.trans (bZ.mono HV.out.size)).mono HWS.out))
  clear bZ
  go_wp2
  go_ret
  exact ⟨by simp, HBZ.out⟩

end Go.Proofs.Ytfnjbbokbdddpaa.M2
