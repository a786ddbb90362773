/-
  The walk of SweepTakes: for all lists of bytes and all numbers it answers true and leaves all old memory as it was.
-/
import Derived.Test.YtfnjbbokbdddpaaG0817
import Derived.StillTailTactics
import Derived.Deep.CutBlock
import Derived.Deep.CutRange
namespace Go.Proofs.Ytfnjbbokbdddpaa.M2
open Go.RowKit

def TkR (w : World) (gl g m n : Nat) (os : List Nat) (k : Nat) (wr : World) : Prop := ∃ zs : List Int, Ok n os zs ∧ zs.getD 2 0 = 50 ∧ LW w gl g m os zs wr

theorem onAt {W : World} {g m i : Nat} {os : List Nat} (h : Reads .i64 W (some ⟨g, 0, none⟩) m (ints os)) (hm : os.length = m) (hi : i < m) : W.cell? ⟨g, i, none⟩ = some (.int .i64 ((os.getD i 0 : Nat) : Int)) := by
  obtain ⟨b, o, e, hl, hc⟩ := h.2 (by omega)
  simp only [Option.some.injEq, Addr.mk.injEq] at e
  obtain ⟨rfl, rfl, _⟩ := e
  have := hc i hi
  rw [Nat.zero_add, ints_getD os (by omega)] at this
  exact this
theorem own_int {w w' : World} {n c : Nat} {v : Value} {xs : List Value} (h : w.ownsRow n 3 1 v c xs) (hb : Below w.heap.size w w') : w'.ownsRow n 3 1 v c xs := _root_.Go.Proofs.Ytfnjbbokbdddpaa.own_keep h fun g hg => hb.block g (h.lt g hg).2
theorem int_app {W' : World} {b : Nat} {v' : Value} {ps : List Nat} {d : Nat} (h : W'.ownsRow b 3 1 v' ((ints ps).length + 1) ((ints ps).map (Value.int .i64) ++ [.int .i64 (d : Int)])) : W'.ownsRow b 3 1 v' (ints (ps ++ [d])).length ((ints (ps ++ [d])).map (Value.int .i64)) := by
  rw [show ints (ps ++ [d]) = ints ps ++ [(d : Int)] by simp [ints], List.length_append, List.map_append]
  exact h

structure TkE (w1 : World) (g m L : Nat) (os : List Nat) (ao : Option Addr) (lo : Nat) (ol : List Int) (gc : Nat) (now : List Int) (gT : Nat) (T : Th) (gD : Nat) (dL : Int) (du dst : Value) (W : World) : Prop where
  o : Reads .i64 W (some ⟨g, 0, none⟩) m (ints os)
  old : Reads .i64 W ao lo ol
  c : Reads .i64 W (some ⟨gc, 0, none⟩) L now
  t : TX W gT T (.slice none 0 0)
  d : Boxed W gD (.int .i64 dL) du dst
  s : ∃ N, W.ownsRow N 2 1 du now.length (now.map (Value.int .i64))
  b : Below w1.heap.size w1 W
section
variable {w1 W W' : World} {g m L : Nat} {os : List Nat} {ao : Option Addr} {lo : Nat} {ol : List Int} {gc : Nat} {now : List Int} {gT : Nat} {T : Th} {gD : Nat} {dL : Int} {du dst : Value}
theorem TkE.fresh (h : TkE w1 g m L os ao lo ol gc now gT T gD dL du dst W) (hb : Below W.heap.size W W') : TkE w1 g m L os ao lo ol gc now gT T gD dL du dst W' :=
  ⟨h.o.keep hb, h.old.keep hb, h.c.keep hb, h.t.keep hb, h.d.keep hb, h.s.imp fun _ r => own_keep r hb, h.b.trans (hb.mono h.b.size)⟩
theorem TkE.below (h : TkE w1 g m L os ao lo ol gc now gT T gD dL du dst W) (hb : Below W.heap.size W W') : TkE w1 g m L os ao lo ol gc now gT T gD dL du dst W' := h.fresh hb
end

set_option maxRecDepth 100000 in
set_option maxHeartbeats 16000000 in
theorem takesWalk {w : World} (ac : Option Addr) (nc cc : Nat) (xs : List Int) (many age : Int) (ad' : Option Addr) (nd cd : Nat) (ds : List Int) (hx : ArgBytes w ac nc cc xs) (hnc : nc ≤ 140737488351232) (k0 : 0 ≤ many) (k1 : many ≤ 255) (a0 : 0 ≤ age) (a1 : age ≤ 255) (hd : ArgBytes w ad' nd cd ds) (hnd : nd ≤ 140737488351232) :
    Calls Try.prog 5 #[.slice ac nc cc, .int .u8 many, .int .u8 age, .slice ad' nd cd] w fun e w' => e = .returned (.bool true) ∧ Below w.heap.size w w' := by
  obtain ⟨i0, hi, hz0, hz1, hz2⟩ := info_parts infoInt
  have C := chainAny w ac nc cc xs hx hnc (many % 10) (by omega) (by omega)
  have HD := Lib.hid hd
  have HND := Lib.hid hnd
  have HI := Lib.hid (And.intro hi (And.intro hz0 (And.intro hz1 hz2)))
  clear hx hd hnd hi hz0 hz1 hz2
  go_enter Try.func5, Try.ntmps5
  go_wp2_with fail
  refine C.mono ?_
  clear C
  rintro e w1 ⟨n, os, zs, gl, g, c, rfl, ⟨hn1, hn9⟩, hol, hos, hch, hlw, hbl, hgl, hoc⟩
  have hzl := hch.len
  have hle := hos.le
  obtain ⟨L, hL⟩ : ∃ L, 3 + 5 * n = L := ⟨_, rfl⟩
  obtain ⟨m, hm⟩ : ∃ m, os.length = m := ⟨_, rfl⟩
  have HT0 := Lib.hid (show TkR w gl g m n os 0 w1 from ⟨zs, Ok.start hch hos, hch.z2, by rw [← hm]; exact hlw⟩)
  have HOS := Lib.hid hos
  have HM := Lib.hid hm
  have HG := Lib.hid (And.intro hbl hgl)
  have HN := Lib.hid (show (1 ≤ n ∧ n ≤ 9) ∧ m ≤ n ∧ 3 + 5 * n = L ∧ m ≤ c by omega)
  rw [hm, hL]
  have m9 : (m : Int) ≤ 9 := by omega
  clear hch hlw hos hol hzl hbl hgl hoc hle hL hm hn1 hn9
  go_upto_block 0 with (fail)
  go_cut [11] from 32 to 56 (fun kv wx => (∃ k : Int, kv = .int .i64 k) ∧ Hid (∃ k, TkR w gl g m n os k wx))
  case first =>
    go_wp2
    go_loopw [11] (fun kv wr => ∃ k : Nat, k ≤ m ∧ kv = .int .i64 (k : Int) ∧ Hid (TkR w gl g m n os k wr)) (fun kv _ => m - (intOf kv).toNat)
    case atStart => exact ⟨0, Nat.zero_le _, rfl, HT0⟩
    case round =>
      obtain ⟨k, hk, rfl, hw⟩ := hrel
      clear HT0
      have HR : Hid (TkR w gl g m n os k wr) := hw
      clear hw
      by_cases hlt : k < m ∧ k < nd
      · obtain ⟨h1, h2⟩ := hlt
        have h1i : (k : Int) < m := by omega
        have h2i : (k : Int) < nd := by omega
        have HK := Lib.hid (And.intro h1 h2)
        obtain ⟨z, hok, hz2, hlw⟩ := HR.out
        obtain ⟨bb, bo, rfl, blt, bc⟩ := HD.out.1.2 (by omega)
        have d1 := (hlw.2.2.cell (p := ⟨bb, bo + k, none⟩) blt).trans (bc k h2)
        have hdb := HD.out.2.2.2 (ds.getD k 0) (by have := HD.out.1.1; simp [List.getD, this, h2])
        have c1 := onAt hlw.2.1 HM.out h1
        obtain ⟨q, hq, eq⟩ := HOS.out.at (t := k) (by rw [HM.out]; exact h1)
        have HQ := Lib.hid (And.intro hq eq)
        have HLW := Lib.hid hlw
        have HOK := Lib.hid hok
        have HZ2 := Lib.hid hz2
        have hzl := hok.len
        have hcz := hlw.1.cell (i := os.getD k 0) (by omega)
        have hf : ∀ o, wr.frozen? ⟨gl, o, none⟩ = false := fun o => hlw.1.f o
        have dL : os.getD k 0 < L := by have := HN.out; omega
        have HDB := Lib.hid hdb
        obtain ⟨d, hdd⟩ : ∃ d, os.getD k 0 = d := ⟨_, rfl⟩
        have HDD := Lib.hid hdd
        rw [hdd] at c1 hcz dL
        have dLi : (d : Int) < (L : Int) := by omega
        have db0 := hdb.1
        have db1 := hdb.2
        generalize ds.getD k 0 = b at *
        generalize z.getD d 0 = zo at *
        clear bc hok hz2 hlw hq eq hdd hk h1 h2 hzl hdb
        have HNW := Lib.hid (fun x => (HLW.out.drewN (q := 1)).store (i := d) HG.out.1 HG.out.2 x)
        have HRS := Lib.hid (fun x => HOK.out.reqSet (k := k) (by rw [HM.out]; exact HK.out.1) x)
        rw [HDD.out] at HRS
        have hd3 : d ≠ 2 := by have := HQ.out; have := HDD.out; omega
        go_upto_region 5 with (fail)
        go_still_tail 13, (by kernel_rfl)
        go_wp2
        go_roundw
        case rel => exact ⟨k + 1, HK.out.1, by go_num, Lib.hid ⟨_, HRS.out _, by rw [getD_set, if_neg (fun hh => hd3 hh.1)]; exact HZ2.out, HNW.out _⟩⟩
        case measure => have := HK.out; simp [intOf]; omega
      · have HX := Lib.hid hlt
        clear hlt hk
        by_cases h1 : k < m
        · have h1i : (k : Int) < m := by omega
          have h2i : (nd : Int) ≤ k := by have := HX.out; omega
          go_wp2
          go_meet
          exact ⟨⟨_, rfl⟩, Lib.hid ⟨k, HR.out⟩⟩
        · have h1i : (m : Int) ≤ k := by omega
          go_wp2
          go_meet
          exact ⟨⟨_, rfl⟩, Lib.hid ⟨k, HR.out⟩⟩
  case' rest => skip
  obtain ⟨⟨kk, rfl⟩, hR⟩ := hcut
  obtain ⟨k, z, hok, hz2, hlw⟩ := hR
  have HWc := Lib.hid hlw
  have c0 := hlw.1.cell (i := 0) (by rw [hok.len]; omega)
  have cf := hlw.1.f
  have HW1 := Lib.hid (hlw.store (i := 0) HG.out.1 HG.out.2 1)
  have HOK := Lib.hid (hok.lock 1)
  have HZ2 := Lib.hid (show (z.set 0 1).getD 2 0 = 50 by rw [getD_set, if_neg (by omega)]; exact hz2)
  have hL0 : 0 < L := by have := HN.out; omega
  have hL0i : (0 : Int) < (L : Int) := by omega
  generalize z.getD 0 0 = z0 at *
  generalize z.set 0 1 = Z at *
  clear hok hz2 hlw HWc
  go_upto_region 7 with (fail)
  generalize World.setCell wc ⟨gl, 0, none⟩ (.int .i64 1) = W1 at *
  clear c0 cf
  have HZ := Lib.hid (show Z.length = L by rw [HOK.out.len]; exact HN.out.2.2.1)
  have HB := Lib.hid (show Below w.heap.size w W1 from HW1.out.2.2)
  have HWS := Lib.hid (show w.heap.size ≤ W1.heap.size from HB.out.size)
  have HL := Lib.hid (show Reads .i64 W1 (some ⟨gl, 0, none⟩) L Z by have := HW1.out.1.readsW; rwa [HZ.out] at this)
  have HO := Lib.hid (show Reads .i64 W1 (some ⟨g, 0, none⟩) m (ints os) from HW1.out.2.1)
  have HV := Lib.hid (Below.refl W1.heap.size W1)
  have C := memoryTwo W1 (some ⟨gl, 0, none⟩) L L Z HL.out (by have := HN.out; omega)
  unfold MadeT at C
  rw [HZ.out] at C
  have HC := Lib.hid C
  clear C HW1 HD HND
  go_wp2_with fail
  with_reducible refine HC.out.mono ?_
  clear HC
  rintro e w2 ⟨p, u, v, rfl, m2, o2, n2, b2⟩
  obtain ⟨au, cu, rfl⟩ := ownShape o2
  have HM2 := Lib.hid m2
  have HO2 := Lib.hid o2
  have HV := Lib.hid b2
  clear m2 o2 b2 n2
  go_upto_region 8 with (fail)
  generalize hW : w2.alloc (.cells #[.int .i64 (L : Int), .slice au L cu, .int .i64 (1 + (L : Int))] 39) = W3
  have ff : Below w2.heap.size w2 W3 := by subst hW; exact (Below.refl _ _).alloc (Nat.le_refl _) _
  have HX3 := Lib.hid (show Boxed W3 w2.heap.size (.int .i64 (L : Int)) (.slice au L cu) (.int .i64 (1 + (L : Int))) by subst hW; exact Boxed.new _ _ _ _)
  replace HM2 := Lib.hid (HM2.out.fresh ff)
  replace HO2 := Lib.hid (own_keep HO2.out ff)
  replace HV := Lib.hid (HV.out.trans (ff.mono HV.out.size))
  clear ff hW
  generalize w2.heap.size = g3 at *
  obtain ⟨ag, hag⟩ : ∃ ag : Int, age % 60 = ag := ⟨_, rfl⟩
  have HAG := Lib.hid (show 0 ≤ ag ∧ ag ≤ 59 by omega)
  have g0 := HAG.out.1
  have g1 := HAG.out.2
  have C := refStaleR (size := (L : Int)) (st := 1 + (L : Int)) (u := .slice au L cu) (zs := Z) (by have := HO2.out; rwa [← HZ.out] at this ⊢) (by rw [HZ.out]; have := HN.out; omega) HOK.out.path ag
  simp only [Bool.false_eq_true, if_false] at C
  rw [HM.out] at C
  have HC := Lib.hid C
  have d0 := HX3.out.c0
  have d1 := HX3.out.c1
  have d2 := HX3.out.c2
  clear C
  go_wp2_with fail
  rw [hag]
  with_reducible refine HC.out.mono ?_
  clear HC d0 d1 d2
  rintro e w4 ⟨v4, rfl, r4, b4⟩
  obtain ⟨aO, cO, rfl, _⟩ := r4.shape
  obtain ⟨lO, hlO⟩ : ∃ k, (staleK Z os ag m).length = k := ⟨_, rfl⟩
  rw [hlO] at r4 ⊢
  have HLO := Lib.hid hlO
  have HRO := Lib.hid r4
  replace HM2 := Lib.hid (HM2.out.fresh b4)
  replace HV := Lib.hid (HV.out.trans (b4.mono HV.out.size))
  clear r4 b4 hlO HX3 HO2
  have HLW := Lib.hid (show w4.cell? ⟨gl, 2, none⟩ = some (.int .i64 50) by
    obtain ⟨b, o, e, _, hc⟩ := (HL.out.keep HV.out).2 (by have := HN.out; omega)
    simp only [Option.some.injEq, Addr.mk.injEq] at e
    obtain ⟨rfl, rfl, _⟩ := e
    have := hc 2 (by have := HN.out; omega)
    rwa [HZ2.out, Nat.zero_add] at this)
  have cl := HLW.out
  have h2L : 2 < L := by have := HN.out; omega
  have h2i : (2 : Int) < (L : Int) := by omega
  have C := Lib.hid (allOk HM2.out HOK.out (by have := HN.out; omega) ag 50 (by omega) (by have := HN.out; omega))
  go_wp2_with fail
  rw [hag]
  with_reducible refine C.out.mono ?_
  clear C cl HLW
  rintro e w5 ⟨T, kn, zs7, st7, rfl, hT, hkn, d5, hs5, s5⟩
  rw [show thN T = .agg #[.int .i64 T.ti, .int .i64 T.pc, .int .i64 T.rc, .int .i64 T.sq, .int .i64 T.wo, .int .i64 T.lk, .int .i64 T.cu, .int .i64 T.pv, .int .i64 T.nt, .int .i64 T.mx, .int .i64 T.ps, .int .i64 T.rn, .slice none 0 0] from rfl]
  have HT := Lib.hid hT
  have HKN := Lib.hid hkn
  have HSW := Lib.hid s5
  have b5 := Did.under HM2.out d5 (Nat.le_refl _) HV.out.size
  have R5 := HRO.out.kept (d5.kept HM2.out)
  obtain ⟨v5, m5, wr5, _⟩ := d5
  replace HRO := Lib.hid R5
  replace HM2 := Lib.hid m5
  replace HV := Lib.hid (HV.out.trans b5)
  clear s5 R5 b5 hs5 m5 wr5 hT hkn HL
  obtain ⟨now, hnow⟩ : ∃ z1, zs7.set 0 0 = z1 := ⟨_, rfl⟩
  rw [hnow] at HM2
  have HNL := Lib.hid (show now.length = L by rw [← hnow, List.length_set, HSW.out.ok.len]; exact HN.out.2.2.1)
  go_upto_region 12 with (fail)
  generalize hW : w5.alloc (.cells #[.int .i64 T.ti, .int .i64 T.pc, .int .i64 T.rc, .int .i64 T.sq, .int .i64 T.wo, .int .i64 T.lk, .int .i64 T.cu, .int .i64 T.pv, .int .i64 T.nt, .int .i64 T.mx, .int .i64 T.ps, .int .i64 T.rn, .slice none 0 0] 25) = W6
  have ff : Below w5.heap.size w5 W6 := by subst hW; exact (Below.refl _ _).alloc (Nat.le_refl _) _
  have HTX := Lib.hid (show TX W6 w5.heap.size T (.slice none 0 0) by subst hW; exact TX.new w5 T _)
  replace HRO := Lib.hid (HRO.out.fresh ff)
  replace HM2 := Lib.hid (HM2.out.fresh ff)
  replace HV := Lib.hid (HV.out.trans (ff.mono HV.out.size))
  clear ff hW
  generalize w5.heap.size = gT at *
  have C := cells1 (show Mem1 W6 W1.heap.size p (L : Int) now st7 from ⟨_, HM2.out⟩)
  rw [HNL.out] at C
  have HC := Lib.hid C
  clear C
  go_wp2_with fail
  with_reducible refine HC.out.mono ?_
  clear HC
  rintro e w8 ⟨rfl, o8, b8⟩
  have HRC := Lib.hid (reads_own o8)
  replace HRO := Lib.hid (HRO.out.fresh b8)
  replace HTX := Lib.hid (HTX.out.keep b8)
  replace HV := Lib.hid (HV.out.trans (b8.mono HV.out.size))
  clear o8 b8 HM2
  generalize W6.heap.size = gc at *
  have C := memoryTwo w8 (some ⟨gc, 0, none⟩) L L now HRC.out (by have := HN.out; omega)
  unfold MadeT at C
  rw [HNL.out] at C
  have HC := Lib.hid C
  clear C
  go_wp2_with fail
  with_reducible refine HC.out.mono ?_
  clear HC
  rintro e wC ⟨pC, uC, vC, rfl, mC, oC, nC, bC⟩
  obtain ⟨aC, cC, rfl⟩ := ownShape oC
  have HOC := Lib.hid oC
  replace HRO := Lib.hid (HRO.out.fresh bC)
  replace HRC := Lib.hid (HRC.out.keep bC)
  replace HTX := Lib.hid (HTX.out.keep bC)
  replace HV := Lib.hid (HV.out.trans (bC.mono HV.out.size))
  clear mC oC nC bC
  go_upto_region 14 with (fail)
  generalize hW : wC.alloc (.cells #[.int .i64 (L : Int), .slice aC L cC, .int .i64 (1 + (L : Int))] 39) = WD
  have ff : Below wC.heap.size wC WD := by subst hW; exact (Below.refl _ _).alloc (Nat.le_refl _) _
  have HE := Lib.hid (show TkE W1 g m L os aO lO (staleK Z os ag m) gc now gT T wC.heap.size (L : Int) (.slice aC L cC) (.int .i64 (1 + (L : Int))) WD from by
    have r := HRO.out.fresh ff
    obtain ⟨a', c', e', hr⟩ := r.shape
    simp only [Value.slice.injEq] at e'
    obtain ⟨rfl, _, rfl⟩ := e'
    rw [HLO.out] at hr
    exact ⟨(HO.out.keep HV.out).keep ff, hr, HRC.out.keep ff, HTX.out.keep ff, by subst hW; exact Boxed.new _ _ _ _, ⟨_, by have := own_keep HOC.out ff; rwa [← HNL.out] at this ⊢⟩, HV.out.trans (ff.mono HV.out.size)⟩)
  clear ff hW HRO HRC HTX HOC HV
  generalize wC.heap.size = gD at *
  have HQ := Lib.hid (fun k (hk : k < m) => swP_next (ag := ag) (P := 50) (zs := Z) (os := os) (k := k) (by rw [HM.out]; exact hk))
  have HGO := Lib.hid (fun k (hk : k < m) ho => gone_at (ag := ag) (P := 50) HOS.out HSW.out (k := k) (by rw [HM.out]; exact hk) ho)
  have HST := Lib.hid (fun k (hk : k < m) => staleK_mem (ws := Z) (age := ag) HOS.out (j := k) (by rw [HM.out]; exact hk))
  rw [hnow] at HGO
  rw [HM.out] at HST
  have hL48 : (L : Int) ≤ 48 := by have := HN.out; omega
  have HAGQ := Lib.hid hag
  clear g0 g1 h2L h2i hag
  go_wp2
  go_loopw [20, 21] (fun wv kv wr => ∃ k : Nat, k ≤ m ∧ kv = .int .i64 (k : Int) ∧ Hid (wr.ownsRow WD.heap.size 3 1 wv (ints (swP ag 50 Z (os.take k) 0)).length ((ints (swP ag 50 Z (os.take k) 0)).map (Value.int .i64))) ∧ Hid (Below WD.heap.size WD wr)) (fun _ kv _ => m - (intOf kv).toNat)
  case atStart => exact ⟨0, Nat.zero_le _, rfl, by rw [swP_none]; exact Lib.hid (World.ownsRow_nil _ _ _ _), Lib.hid (Below.refl _ _)⟩
  case round =>
    obtain ⟨k, hk, rfl, hri, hw⟩ := hrel
    have HW : Hid (Below WD.heap.size WD wr) := hw
    have HRI : Hid (wr.ownsRow WD.heap.size 3 1 _ (ints (swP ag 50 Z (os.take k) 0)).length ((ints (swP ag 50 Z (os.take k) 0)).map (Value.int .i64))) := hri
    obtain ⟨aw, cw, rfl⟩ := ownShape HRI.out
    clear hw hri
    have HR := Lib.hid (HE.out.below HW.out)
    rw [ints_len] at HRI ⊢
    by_cases hlt : k < m
    · have hlt' : (k : Int) < m := by omega
      have HLT := Lib.hid hlt
      have c1 := onAt HR.out.o HM.out hlt
      have HQk := Lib.hid (HQ.out k hlt)
      have HSk := Lib.hid (HST.out k hlt)
      have HGk := Lib.hid (HGO.out k hlt)
      obtain ⟨q, hq, eq⟩ := HOS.out.at (t := k) (by rw [HM.out]; exact hlt)
      have HOI := Lib.hid (old_is os Z ag k HZ2.out)
      obtain ⟨d, hd⟩ : ∃ d, os.getD k 0 = d := ⟨_, rfl⟩
      have HDD9 := Lib.hid hd
      rw [hd] at c1 HQk HSk HGk HOI eq
      obtain ⟨d1, hd1⟩ : ∃ d1, d + 1 = d1 := ⟨_, rfl⟩
      rw [hd1] at HGk
      have hdL1 : d1 < L := by have := HN.out; omega
      have hdL : d < L := by omega
      have hdi : (d : Int) < (L : Int) := by omega
      have hdi1 : (d1 : Int) < (L : Int) := by omega
      have hw1 : (d : Int) + 1 = (d1 : Int) := by omega
      have hw2 : wrap64 ((d : Int) + 1) = (d1 : Int) := by rw [← IntWalk.i64_left, hw1]; exact IntWalk.i64_in _ (by omega)
      have C := Lib.hid (refPlace wr aO lO cO (staleK Z os ag m) HR.out.old (by rw [← HLO.out]; have := staleK_len Z os ag m; have := HN.out; omega) (d : Int))
      clear hlt hk hd hq eq hd1
      cases hold : (decide (1 ≤ k) && swO ag 50 Z d) with
      | true =>
        have HIN := Lib.hid (HSk.out.2 (by rw [HOI.out]; exact hold))
        obtain ⟨e0, e1⟩ := HGk.out hold
        have HQ1 := Lib.hid (show swP ag 50 Z (os.take (k + 1)) 0 = swP ag 50 Z (os.take k) 0 by rw [HQk.out, if_pos hold, List.append_nil])
        clear HQk HSk HGk HOI hold
        go_wp2_with fail
        with_reducible refine C.out.mono ?_
        clear C
        rintro e w' ⟨i, rfl, hi, hy, _, hb⟩
        have i0 : 0 ≤ i := hy HIN.out
        have i1 : decide (i < 0) = false := decide_eq_false (by omega)
        have HE9 := Lib.hid (HR.out.fresh hb)
        have HW9 := Lib.hid (HW.out.trans (hb.mono HW.out.size))
        have HR9 := Lib.hid (own_int HRI.out hb)
        have x1 := onAt HE9.out.o HM.out HLT.out
        rw [HDD9.out] at x1
        have y1 : w'.cell? ⟨gc, d, none⟩ = some (.int .i64 (-1)) := by
          obtain ⟨b, o, e, _, hc⟩ := HE9.out.c.2 (by omega)
          simp only [Option.some.injEq, Addr.mk.injEq] at e
          obtain ⟨rfl, rfl, _⟩ := e
          have := hc d hdL
          rwa [e0, Nat.zero_add] at this
        have y2 : w'.cell? ⟨gc, d1, none⟩ = some (.int .i64 0) := by
          obtain ⟨b, o, e, _, hc⟩ := HE9.out.c.2 (by omega)
          simp only [Option.some.injEq, Addr.mk.injEq] at e
          obtain ⟨rfl, rfl, _⟩ := e
          have := hc d1 hdL1
          rwa [e1, Nat.zero_add] at this
        clear e0 e1 hy hb hi
        go_wp2
        go_roundw
        case rel => exact ⟨k + 1, by have := HLT.out; omega, by go_num, Lib.hid (by rw [HQ1.out, ints_len]; exact HR9.out), HW9⟩
        case measure => have := HLT.out; simp [intOf]; omega
      | false =>
        have HIN := Lib.hid (show (d : Int) ∉ staleK Z os ag m from fun hh => by have := HSk.out.1 hh; rw [HOI.out, hold] at this; cases this)
        have HQ1 := Lib.hid (show swP ag 50 Z (os.take (k + 1)) 0 = swP ag 50 Z (os.take k) 0 ++ [d] by rw [HQk.out, hold]; rfl)
        clear HQk HSk HGk HOI hold
        go_wp2_with fail
        with_reducible refine C.out.mono ?_
        clear C
        rintro e w' ⟨i, rfl, hi, _, hy, hb⟩
        obtain rfl := hy HIN.out
        have HE9 := Lib.hid (HR.out.fresh hb)
        have HW9 := Lib.hid (HW.out.trans (hb.mono HW.out.size))
        have HR9 := Lib.hid (own_int HRI.out hb)
        have HPL := Lib.hid (show (swP ag 50 Z (os.take k) 0).length ≤ 9 by
          have h1 := swP_le ag 50 Z (os.take k) 0
          have h2 : (os.take k).length ≤ os.length := by rw [List.length_take]; omega
          have := HM.out; have := HN.out; omega)
        generalize swP ag 50 Z (os.take k) 0 = pk at *
        have x1 := onAt HE9.out.o HM.out HLT.out
        rw [HDD9.out] at x1
        obtain ⟨obj, hobj⟩ : ∃ o : Obj, o = .cells #[.int .i64 (d : Int)] 3 := ⟨_, rfl⟩
        have hal : Below w'.heap.size w' (w'.alloc obj) := (Below.refl _ _).alloc (Nat.le_refl _) _
        have HRA := Lib.hid (own_int HR9.out hal)
        have HWA := Lib.hid (HW9.out.trans (hal.mono HW9.out.size))
        rw [hobj] at HRA HWA
        obtain ⟨hi1, hi2, hi3, hi4⟩ := HI.out
        have hpl9 := HPL.out
        clear hy hb hi hal hobj
        go_wp2_with (at_builtin; refine wpList_append_later rfl (.tmp 102) (.tmp 107) 34 rfl WD.heap.size 3 i0 _ 1 8 Try.underlying34 hi1 hi2 hi3 hi4 rfl (by decide) _ _ _ rfl HRA.out ⟨w'.heap.size, 0, none⟩ 1 1 [.int .i64 (d : Int)] rfl rfl (by intro j u hu; cases j <;> simp at hu; subst hu; go_simp) (by intro u hu; simp at hu; subst hu; rfl) (by simp only [maxLen]; omega) (by omega) HWA.out.size ?_; intro v4 V4 q4 g4 lt4; have B4 := Lib.hid (HWA.out.grown g4 HWA.out.size (fun j e => (HRA.out.lt j e).1)); have Q4 := Lib.hid q4; obtain ⟨a4, c4, rfl⟩ := ownShape q4; clear q4 g4 lt4)
        go_roundw
        case rel => exact ⟨k + 1, by have := HLT.out; omega, by go_num, Lib.hid (by rw [HQ1.out]; exact int_app (by rw [ints_len]; exact Q4.out)), B4⟩
        case measure => have := HLT.out; simp [intOf]; omega
    · have hlt' : (m : Int) ≤ k := by omega
      have htk : os.take k = os := List.take_of_length_le (by rw [HM.out]; omega)
      rw [htk] at HRI ⊢
      have HPth := Lib.hid (show Path now (swP ag 50 Z os 0) false by rw [← hnow]; exact (HSW.out.ok.lock 0).path)
      have HSou := Lib.hid (show soundV now (swP ag 50 Z os 0) false = 0 by rw [← hnow]; exact (HSW.out.ok.lock 0).sound)
      have HSta := Lib.hid (show staleK now (swP ag 50 Z os 0) ag (swP ag 50 Z os 0).length = [] by rw [← hnow]; exact stale_none HOS.out HSW.out HZ2.out)
      have hz0 : now.getD 0 0 = 0 := by rw [← hnow, getD_set, if_pos ⟨rfl, by rw [HSW.out.ok.len]; omega⟩]
      have HP9 := Lib.hid (show (swP ag 50 Z os 0).length ≤ 9 by have := swP_le ag 50 Z os 0; have := HM.out; have := HN.out; omega)
      have HLW := Lib.hid (show ∀ W, TkE W1 g m L os aO lO (staleK Z os ag m) gc now gT T gD (L : Int) (.slice aC L cC) (.int .i64 (1 + (L : Int))) W → W.cell? ⟨gc, 0, none⟩ = some (.int .i64 0) from fun W h => by
        obtain ⟨b, o, e, _, hc⟩ := h.c.2 (by omega)
        simp only [Option.some.injEq, Addr.mk.injEq] at e
        obtain ⟨rfl, rfl, _⟩ := e
        have := hc 0 hL0
        rwa [hz0, Nat.zero_add] at this)
      have HAGE := Lib.hid (show age % 60 = ag from HAGQ.out)
      have HRch := Lib.hid (fun W (h : TkE W1 g m L os aO lO (staleK Z os ag m) gc now gT T gD (L : Int) (.slice aC L cC) (.int .i64 (1 + (L : Int))) W) => h.s.elim fun N r => refReach (size := (L : Int)) (st := 1 + (L : Int)) r (by rw [HNL.out]; have := HN.out; omega) HPth.out)
      have HRst := Lib.hid (fun W (h : TkE W1 g m L os aO lO (staleK Z os ag m) gc now gT T gD (L : Int) (.slice aC L cC) (.int .i64 (1 + (L : Int))) W) => h.s.elim fun N r => refStale (size := (L : Int)) (st := 1 + (L : Int)) r (by rw [HNL.out]; have := HN.out; omega) HPth.out ag)
      have HRso := Lib.hid (fun W (h : TkE W1 g m L os aO lO (staleK Z os ag m) gc now gT T gD (L : Int) (.slice aC L cC) (.int .i64 (1 + (L : Int))) W) => h.s.elim fun N r => refSound (size := (L : Int)) (st := 1 + (L : Int)) r (by rw [HNL.out]; have := HN.out; omega) HPth.out)
      clear htk hz0 hlt hk
      generalize swP ag 50 Z os 0 = pk at *
      have C := Lib.hid (HRch.out wr HR.out)
      have d0 := HR.out.d.c0
      have d1 := HR.out.d.c1
      have d2 := HR.out.d.c2
      go_wp2_with fail
      with_reducible refine C.out.mono ?_
      clear C d0 d1 d2
      rintro e wA ⟨vA, rfl, hv⟩
      simp only [Bool.false_eq_true, if_false, Bool.not_false] at hv ⊢
      obtain ⟨aA, cA, rfl, rA, bA⟩ := hv
      rw [ints_len] at rA ⊢
      have HRA := Lib.hid rA
      have HEA := Lib.hid (HR.out.fresh bA)
      have HWA := Lib.hid (own_int HRI.out bA)
      clear rA bA HR HRI HW
      go_wp2_with fail
      refine (known wA).mono ?_
      rintro e wB ⟨rfl, bB⟩
      have HRB := Lib.hid (HRA.out.keep bB)
      have HEB := Lib.hid (HEA.out.fresh bB)
      have HWB := Lib.hid (own_int HWA.out bB)
      clear bB HRA HEA HWA
      have x1 : wB.cell? ⟨gT, 1, none⟩ = some (.int .i64 11) := by have := HEB.out.t.c1; rwa [HT.out] at this
      have KI := Lib.hid (intsEq wB aA aw pk.length cA cw (ints pk) HRB.out (by have h := HWB.out; rw [← ints_len] at h; obtain ⟨a', c', e', hr, _, _⟩ := _root_.Go.Proofs.Ytfnjbbokbdddpaa.reads_own h; simp only [Value.slice.injEq] at e'; obtain ⟨rfl, _, rfl⟩ := e'; rwa [ints_len] at hr) (by have := HP9.out; omega))
      go_wp2_with fail
      with_reducible refine KI.out.mono ?_
      clear KI x1
      rintro e wF ⟨rfl, bF⟩
      have HEF := Lib.hid (HEB.out.fresh bF)
      clear bF HEB HRB HWB
      have y0 := HLW.out _ HEF.out
      have C := Lib.hid (HRst.out wF HEF.out)
      have d0 := HEF.out.d.c0
      have d1 := HEF.out.d.c1
      have d2 := HEF.out.d.c2
      go_wp2_with fail
      rw [HAGE.out]
      with_reducible refine C.out.mono ?_
      clear C d0 d1 d2 y0
      rintro e wG ⟨vG, rfl, hv⟩
      simp only [Bool.false_eq_true, if_false] at hv
      rw [HSta.out] at hv
      obtain ⟨aG, cG, rfl, _, bG⟩ := hv
      have HEG := Lib.hid (HEF.out.fresh bG)
      clear bG HEF
      have C := Lib.hid (HRso.out wG HEG.out)
      rw [HSou.out] at C
      have d0 := HEG.out.d.c0
      have d1 := HEG.out.d.c1
      have d2 := HEG.out.d.c2
      go_wp2_with fail
      with_reducible refine C.out.mono ?_
      clear C d0 d1 d2
      rintro e wH ⟨rfl, bH⟩
      have HBH := Lib.hid (HB.out.trans ((HEG.out.b.trans (bH.mono HEG.out.b.size)).mono HWS.out))
      have hkn := HKN.out
      rw [HM.out] at hkn
      have hk7 : (kn : Int) ≤ 7 * (m : Int) + 3 := by omega
      have hw7 : wrap64 (wrap64 (7 * (m : Int)) + 3) = 7 * (m : Int) + 3 := by
        rw [← IntWalk.i64_left, ← IntWalk.i64_left, IntWalk.i64_in (7 * (m : Int)) (by omega)]
        exact IntWalk.i64_in _ (by omega)
      clear bH
      go_wp2
      go_ret
      exact ⟨by simp [hk7, hw7], HBH.out⟩

end Go.Proofs.Ytfnjbbokbdddpaa.M2
