/-
  The walk of SweepNone: for all lists of bytes and all numbers it answers true and leaves all old memory as it was.
-/
import Derived.Test.YtfnjbbokbdddpaaTwo17m
namespace Go.Proofs.Ytfnjbbokbdddpaa.M2
open Go.RowKit

theorem none_a (P : Int) : ∃ t', Rw 1 { t0 with pc := 40, ps := P } [5, 0, P] 2 t' [0, 0, P] ∧ t'.pc = 11 := by
  have e40 := swt40 1 { t0 with pc := 40, ps := P } [5, 0, P] rfl
  rw [show ld [5, 0, P] 1 = 0 from rfl, if_pos rfl] at e40
  have r1 := Rw.refl.step (by show (40 : Int) ≤ 40 ∧ (40 : Int) ≤ 48; omega) e40
  have e48 := swt48 1 { t0 with lk := 0, pc := 48, ps := P } [5, 0, P] rfl
  rw [show sto [5, 0, P] 0 0 = [0, 0, P] from rfl] at e48
  exact ⟨_, r1.step (by show (40 : Int) ≤ 48 ∧ (48 : Int) ≤ 48; omega) e48, rfl⟩

theorem none_b {n : Nat} {os : List Nat} {zs zs' : List Int} (hch : ChK n os os.length zs) (hos : Os n os) (s : Swp n 0 60 50 os zs zs') : zs' = zs := by
  refine s.sm (fun a ha => ?_)
  obtain ⟨j, hj, rfl⟩ := hos.isr a (List.mem_of_mem_drop ha)
  have hg := hch.ag j hj
  unfold swO oldB
  generalize zs.getD (3 + 5 * j + 2) 0 = G at *
  have ew : wrap64 (50 - G) = 50 - G := by rw [← IntWalk.i64_left]; exact IntWalk.i64_in _ (by omega)
  rw [ew, decide_eq_false (show ¬ (60 : Int) < 50 - G by omega)]
  simp

theorem below_drew1 (w : World) : Below w.heap.size w w.drew := (Below.refl _ _).drew

structure NE (w1 : World) (gl g L m : Nat) (os : List Nat) (zs : List Int) (gT gU gc gy : Nat) (T U : Th) (ay : Option Addr) (q N2 : Nat) (P : Int) (W : World) : Prop where
  l : Reads .i64 W (some ⟨gl, 0, none⟩) L zs
  o : Reads .i64 W (some ⟨g, 0, none⟩) m (ints os)
  t : TX W gT T (.slice none 0 0)
  u : TX W gU U (.slice none 0 0)
  c : Reads .i64 W (some ⟨gc, 0, none⟩) L (zs.set 0 0)
  y : Reads .i64 W ay m (ints os)
  n : ∃ st, Mem1 W N2 q 3 [0, 0, P] st
  b : Below w1.heap.size w1 W
theorem NE.fresh {w1 W W' : World} {gl g L m : Nat} {os : List Nat} {zs : List Int} {gT gU gc gy : Nat} {T U : Th} {ay : Option Addr} {q N2 : Nat} {P : Int} (h : NE w1 gl g L m os zs gT gU gc gy T U ay q N2 P W) (hb : Below W.heap.size W W') : NE w1 gl g L m os zs gT gU gc gy T U ay q N2 P W' :=
  ⟨h.l.keep hb, h.o.keep hb, h.t.keep hb, h.u.keep hb, h.c.keep hb, h.y.keep hb, h.n.imp fun _ m => m.keep hb, h.b.trans (hb.mono h.b.size)⟩

set_option maxRecDepth 100000 in
set_option maxHeartbeats 16000000 in
theorem noneWalk {w : World} (ac : Option Addr) (nc cc : Nat) (xs : List Int) (many P : Int) (hx : ArgBytes w ac nc cc xs) (hnc : nc ≤ 140737488351232) (k0 : 0 ≤ many) (k1 : many ≤ 255) (_ : -9223372036854775808 ≤ P) (_ : P ≤ 9223372036854775807) :
    Calls Try.prog 8 #[.slice ac nc cc, .int .u8 many, .int .i64 P] w fun e w' => e = .returned (.bool true) ∧ Below w.heap.size w w' := by
  have C := chainAny w ac nc cc xs hx hnc (many % 10) (by omega) (by omega)
  clear hx
  go_enter Try.func8, Try.ntmps8
  go_wp2_with fail
  refine C.mono ?_
  clear C
  rintro e w1 ⟨n, os, zs, gl, g, c, rfl, ⟨hn1, hn9⟩, hol, hos, hch, hlw, hbl, hgl, hoc⟩
  have hzl := hch.len
  have hle := hos.le
  obtain ⟨L, hL⟩ : ∃ L, 3 + 5 * n = L := ⟨_, rfl⟩
  obtain ⟨m, hm⟩ : ∃ m, os.length = m := ⟨_, rfl⟩
  have hzL : zs.length = L := by omega
  have HLr := Lib.hid (show Reads .i64 w1 (some ⟨gl, 0, none⟩) L zs by have := hlw.1.readsW; rwa [hzL] at this)
  have HOr := Lib.hid (show Reads .i64 w1 (some ⟨g, 0, none⟩) m (ints os) by have := hlw.2.1; rwa [hm] at this)
  have HB := Lib.hid hlw.2.2
  have HCH := Lib.hid hch
  have HOS := Lib.hid hos
  have HM := Lib.hid hm
  have HN := Lib.hid (show (1 ≤ n ∧ n ≤ 9) ∧ m ≤ n ∧ 3 + 5 * n = L ∧ m ≤ c by omega)
  have HZ := Lib.hid hzL
  have C := memoryTwo w1 (some ⟨gl, 0, none⟩) L L zs HLr.out (by omega)
  rw [hm, hL]
  clear hch hlw hos hol hzl hbl hgl hoc hle hL hm hzL hn1 hn9
  go_wp2_with fail
  refine C.mono ?_
  clear C
  rintro e w2 ⟨p, u, v, rfl, m2, o2, n2, b2⟩
  obtain ⟨au, cu, rfl⟩ := ownShape o2
  rw [HZ.out] at m2 ⊢
  have HM2 := Lib.hid m2
  have HB2 := Lib.hid b2
  clear m2 o2 b2 n2
  go_upto_region 3 with (fail)
  generalize hW3 : w2.alloc (.cells #[.int .i64 (L : Int), .slice au L cu, .int .i64 (1 + (L : Int))] 39) = W3
  have f3 : Below w2.heap.size w2 W3 := by subst hW3; exact (Below.refl _ _).alloc (Nat.le_refl _) _
  have HM3 := Lib.hid (HM2.out.fresh f3)
  have HB3 := Lib.hid (HB2.out.trans (f3.mono HB2.out.size))
  clear f3 hW3 HM2 HB2
  go_wp2_with fail
  have R0 := lit_i64 W3 [5, 0, P]
  have hb0 : Below W3.heap.size W3 (W3.alloc (.cells (([5, 0, P] : List Int).map (Value.int .i64)).toArray 2)) := (Below.refl _ _).alloc (Nat.le_refl _) _
  change Calls _ _ _ (W3.alloc (.cells (([5, 0, P] : List Int).map (Value.int .i64)).toArray 2)) _
  generalize W3.alloc (.cells (([5, 0, P] : List Int).map (Value.int .i64)).toArray 2) = W4 at *
  have HB04 := Lib.hid hb0
  have HB4 := Lib.hid (HB3.out.trans (hb0.mono HB3.out.size))
  clear hb0
  refine (memoryTwo W4 _ 3 3 [5, 0, P] R0 (by omega)).mono ?_
  clear R0
  rintro e w5 ⟨q, u5, v5, rfl, m5, o5, n5, b5⟩
  obtain ⟨au5, cu5, rfl⟩ := ownShape o5
  have HS5 := Lib.hid (M2s.new HM3.out (HB04.out.trans (b5.mono HB04.out.size)) (show Mem w5 W4.heap.size q v5 3 [5, 0, P] 4 from m5) HB04.out.size)
  have HB5 := Lib.hid (HB4.out.trans (b5.mono HB4.out.size))
  clear m5 o5 n5 b5 HM3 HB3 HB04
  go_upto_region 4 with (fail)
  generalize hW6 : w5.alloc (.cells #[.int .i64 3, .slice au5 3 cu5, .int .i64 4] 39) = W6
  have f6 : Below w5.heap.size w5 W6 := by subst hW6; exact (Below.refl _ _).alloc (Nat.le_refl _) _
  have HS6 := Lib.hid (HS5.out.fresh f6)
  have HB6 := Lib.hid (HB5.out.trans (f6.mono HB5.out.size))
  have HV6 := Lib.hid (show W4.heap.size ≤ W6.heap.size by have := HS6.out.b.low; have := HS6.out.b.lt; omega)
  clear f6 hW6 HS5 HB5
  generalize W4.heap.size = N2 at *
  have C := Lib.hid (allOk HS6.out.a (Ok.start HCH.out HOS.out) (by have := HN.out; omega) 60 50 (by omega) (by have := HN.out; omega))
  go_wp2_with fail
  with_reducible refine C.out.mono ?_
  clear C
  rintro e w7 ⟨T, k, zs7, st7, rfl, hT, hk, d7, hs7, s7⟩
  rw [none_b HCH.out HOS.out s7] at d7
  have HT := Lib.hid hT
  have b7 := Did.under HS6.out.a d7 (Nat.le_refl _) HB6.out.size
  obtain ⟨v7, S7⟩ := HS6.out.didA d7
  have HS7 := Lib.hid S7
  have HB7 := Lib.hid (HB6.out.trans b7)
  clear d7 s7 S7 b7 hT hk hs7 HS6 HB6
  rw [show thN T = .agg #[.int .i64 T.ti, .int .i64 T.pc, .int .i64 T.rc, .int .i64 T.sq, .int .i64 T.wo, .int .i64 T.lk, .int .i64 T.cu, .int .i64 T.pv, .int .i64 T.nt, .int .i64 T.mx, .int .i64 T.ps, .int .i64 T.rn, .slice none 0 0] from rfl]
  go_upto_region 7 with (fail)
  generalize hW8 : w7.alloc (.cells #[.int .i64 T.ti, .int .i64 T.pc, .int .i64 T.rc, .int .i64 T.sq, .int .i64 T.wo, .int .i64 T.lk, .int .i64 T.cu, .int .i64 T.pv, .int .i64 T.nt, .int .i64 T.mx, .int .i64 T.ps, .int .i64 T.rn, .slice none 0 0] 25) = W8
  have f8 : Below w7.heap.size w7 W8 := by subst hW8; exact (Below.refl _ _).alloc (Nat.le_refl _) _
  have HX8 := Lib.hid (show TX W8 w7.heap.size T (.slice none 0 0) by subst hW8; exact TX.new w7 T _)
  have HS8 := Lib.hid (HS7.out.fresh f8)
  have HB8 := Lib.hid (HB7.out.trans (f8.mono HB7.out.size))
  clear f8 hW8 HS7 HB7
  generalize w7.heap.size = gT at *
  have C := Lib.hid (allAny HS8.out.b 1 P (by omega) (by omega))
  go_wp2_with fail
  with_reducible refine C.out.mono ?_
  clear C
  rintro e w9 ⟨k9, st9, rfl, d9, hs9, hk9, sw9, dn9⟩
  obtain ⟨U, rU, hU⟩ := none_a P
  obtain rfl := rU.all (by omega) (show swB U = false by unfold swB; rw [hU]; rfl) sw9 dn9 hk9
  rw [rU.e] at d9 ⊢
  have HU := Lib.hid hU
  have b9 := Did.under HS8.out.b d9 HS8.out.le HB8.out.size
  have HX9 := Lib.hid (HX8.out.off (d9.kept HS8.out.b))
  obtain ⟨v9, S9⟩ := HS8.out.didB d9
  have HS9 := Lib.hid S9
  have HB9 := Lib.hid (HB8.out.trans b9)
  clear d9 S9 b9 hU hk9 sw9 dn9 rU hs9 HS8 HB8 HX8
  rw [show thN U = .agg #[.int .i64 U.ti, .int .i64 U.pc, .int .i64 U.rc, .int .i64 U.sq, .int .i64 U.wo, .int .i64 U.lk, .int .i64 U.cu, .int .i64 U.pv, .int .i64 U.nt, .int .i64 U.mx, .int .i64 U.ps, .int .i64 U.rn, .slice none 0 0] from rfl]
  go_upto_region 8 with (fail)
  generalize hWA : w9.alloc (.cells #[.int .i64 U.ti, .int .i64 U.pc, .int .i64 U.rc, .int .i64 U.sq, .int .i64 U.wo, .int .i64 U.lk, .int .i64 U.cu, .int .i64 U.pv, .int .i64 U.nt, .int .i64 U.mx, .int .i64 U.ps, .int .i64 U.rn, .slice none 0 0] 25) = WA
  have fA : Below w9.heap.size w9 WA := by subst hWA; exact (Below.refl _ _).alloc (Nat.le_refl _) _
  have HY := Lib.hid (show TX WA w9.heap.size U (.slice none 0 0) by subst hWA; exact TX.new w9 U _)
  have HX := Lib.hid (HX9.out.keep fA)
  have HS := Lib.hid (HS9.out.fresh fA)
  have HBA := Lib.hid (HB9.out.trans (fA.mono HB9.out.size))
  clear fA hWA HS9 HB9 HX9
  generalize w9.heap.size = gU at *
  have C := cells1 (show Mem1 WA w1.heap.size p (L : Int) (zs.set 0 0) st7 from ⟨_, HS.out.a⟩)
  rw [List.length_set, HZ.out] at C
  have HC := Lib.hid C
  clear C
  go_wp2_with fail
  with_reducible refine HC.out.mono ?_
  clear HC
  rintro e wB ⟨rfl, oB, bB⟩
  have RB := reads_own oB
  have HRB := Lib.hid RB
  have HXB := Lib.hid (HX.out.keep bB)
  have HYB := Lib.hid (HY.out.keep bB)
  have HSB := Lib.hid (HS.out.fresh bB)
  have HBB := Lib.hid (HBA.out.trans (bB.mono HBA.out.size))
  clear oB RB bB HX HY HS HBA
  generalize WA.heap.size = gc at *
  have C := Lib.hid (memoryTwo wB (some ⟨gc, 0, none⟩) L L (zs.set 0 0) HRB.out (by have := HN.out; omega))
  go_wp2_with fail
  with_reducible refine C.out.mono ?_
  clear C
  rintro e wC ⟨pC, uC, vC, rfl, mC, oC, nC, bC⟩
  obtain ⟨aC, cC, rfl⟩ := ownShape oC
  rw [List.length_set, HZ.out]
  have HOC := Lib.hid oC
  have HRC := Lib.hid (HRB.out.keep bC)
  have HXC := Lib.hid (HXB.out.keep bC)
  have HYC := Lib.hid (HYB.out.keep bC)
  have HSC := Lib.hid (HSB.out.fresh bC)
  have HBC := Lib.hid (HBB.out.trans (bC.mono HBB.out.size))
  clear mC oC nC bC HRB HXB HYB HSB HBB
  go_upto_region 10 with (fail)
  generalize hWD : wC.alloc (.cells #[.int .i64 (L : Int), .slice aC L cC, .int .i64 (1 + (L : Int))] 39) = WD
  have fD : Below wC.heap.size wC WD := by subst hWD; exact (Below.refl _ _).alloc (Nat.le_refl _) _
  have HRX := Lib.hid (show Boxed WD wC.heap.size (.int .i64 (L : Int)) (.slice aC L cC) (.int .i64 (1 + (L : Int))) by subst hWD; exact Boxed.new _ _ _ _)
  have HOD := Lib.hid (show WD.ownsRow wB.heap.size 2 1 (.slice aC L cC) (zs.set 0 0).length ((zs.set 0 0).map (Value.int .i64)) by
    have h := HOC.out
    have e : (zs.set 0 0).length = L := by rw [List.length_set, HZ.out]
    rw [e] at h ⊢
    exact own_keep h fD)
  have HRD := Lib.hid (HRC.out.keep fD)
  have HXD := Lib.hid (HXC.out.keep fD)
  have HYD := Lib.hid (HYC.out.keep fD)
  have HSD := Lib.hid (HSC.out.fresh fD)
  have HBD := Lib.hid (HBC.out.trans (fD.mono HBC.out.size))
  clear fD hWD HOC HRC HXC HYC HSC HBC
  generalize wC.heap.size = gD at *
  have HPth := Lib.hid ((Ok.start HCH.out HOS.out).lock 0).path
  have C := refReach (size := (L : Int)) (st := 1 + (L : Int)) HOD.out (by rw [List.length_set, HZ.out]; have := HN.out; omega) HPth.out
  have HC := Lib.hid C
  have d0 := HRX.out.c0
  have d1 := HRX.out.c1
  have d2 := HRX.out.c2
  clear C
  go_wp2_with fail
  with_reducible refine HC.out.mono ?_
  clear HC d0 d1 d2
  rintro e wE ⟨vE, rfl, hv⟩
  simp only [Bool.false_eq_true, if_false, Bool.not_false] at hv ⊢
  obtain ⟨a4, c4, rfl, r4, b4⟩ := hv
  rw [ints_len, HM.out] at r4 ⊢
  have HNE := Lib.hid (show NE w1 gl g L m os zs gT gU gc 0 T U a4 q N2 P wE from
    ⟨(HLr.out.keep HBD.out).keep b4, (HOr.out.keep HBD.out).keep b4, HXD.out.keep b4, HYD.out.keep b4, HRD.out.keep b4, r4, ⟨_, _, HSD.out.b.fresh b4⟩, HBD.out.trans (b4.mono HBD.out.size)⟩)
  clear r4 b4 HRD HXD HYD HSD HBD HLr HOr HRX HOD HPth
  have HND := Lib.hid (HNE.out.fresh (below_drew1 wE))
  have K := Lib.hid (known wE.drew)
  have i0 : (fun w' : World => w'.cell? ⟨gT, 1, none⟩ = some (.int .i64 11) ∧ w'.cell? ⟨gU, 1, none⟩ = some (.int .i64 11)) _ := ⟨by have := (HNE.out).t.c1; rwa [HT.out] at this, by have := (HNE.out).u.c1; rwa [HU.out] at this⟩
  have i1 : (fun w' : World => w'.cell? ⟨gT, 1, none⟩ = some (.int .i64 11) ∧ w'.cell? ⟨gU, 1, none⟩ = some (.int .i64 11)) _ := ⟨by have := (HND.out).t.c1; rwa [HT.out] at this, by have := (HND.out).u.c1; rwa [HU.out] at this⟩
  have hL1 : ¬ L = 1 := by have := HN.out; omega
  have h1L : 1 ≤ L := by have := HN.out; omega
  have h1i : (1 : Int) ≤ (L : Int) := by omega
  have hm9 : m ≤ 1000 := by have := HN.out; omega
  obtain ⟨z0, zr, hz⟩ : ∃ z0 zr, zs = z0 :: zr := by
    have := HZ.out
    cases zs with
    | nil => simp at this; omega
    | cons a r => exact ⟨a, r, rfl⟩
  obtain ⟨M, hM⟩ : ∃ M, L = M + 1 := ⟨L - 1, by omega⟩
  have KT := Lib.hid (fun (V : World) (h : NE w1 gl g L m os zs gT gU gc 0 T U a4 q N2 P V) => show Calls Try.prog 23 #[.slice (some ⟨gc, 1, none⟩) (L - 1) (L - 1), .slice (some ⟨gl, 1, none⟩) (L - 1) (L - 1)] V fun e w' => e = .returned (.bool true) ∧ Below V.heap.size V w' from by
    have hc := h.c
    have hl := h.l
    rw [hz, hM] at hc hl
    rw [hM, Nat.add_sub_cancel]
    exact sameEq V _ _ M M M zr (Reads.tail1 hc) (Reads.tail1 hl) (by have := HN.out; omega))
  have KC := Lib.hid (fun (V : World) (h : NE w1 gl g L m os zs gT gU gc 0 T U a4 q N2 P V) => show Calls Try.prog 18 #[.pointer (some ⟨q, 0, none⟩)] V fun e w' => e = .returned (.slice (some ⟨V.heap.size, 0, none⟩) 3 3) ∧ Reads .i64 w' (some ⟨V.heap.size, 0, none⟩) 3 [0, 0, P] ∧ Below V.heap.size V w' from by
    obtain ⟨st, m⟩ := h.n
    exact (cells1 m).mono fun e w' ⟨he, o, b⟩ => ⟨he, reads_own o, b⟩)
  clear hz hM
  go_wp2
  go_region_held3 (fun w' : World => w'.cell? ⟨gT, 1, none⟩ = some (.int .i64 11) ∧ w'.cell? ⟨gU, 1, none⟩ = some (.int .i64 11)) (first | with_reducible exact i0 | with_reducible exact i1 | with_reducible exact i2 | with_reducible exact i3 | with_reducible exact i4 | with_reducible exact i5 | with_reducible exact i6 | with_reducible exact i7) (first
    | ((with_reducible refine K.out.mono ?_); rintro e w8 ⟨rfl, b8⟩; have H8 := Lib.hid (HND.out.fresh b8); clear b8; have i2 : (fun w' : World => w'.cell? ⟨gT, 1, none⟩ = some (.int .i64 11) ∧ w'.cell? ⟨gU, 1, none⟩ = some (.int .i64 11)) _ := ⟨by have := (H8.out).t.c1; rwa [HT.out] at this, by have := (H8.out).u.c1; rwa [HU.out] at this⟩; have KI := Lib.hid (intsEq w8 a4 (some ⟨g, 0, none⟩) m c4 c (ints os) H8.out.y H8.out.o hm9))
    | ((with_reducible refine KI.out.mono ?_); rintro e wa ⟨rfl, ba⟩; have Ha := Lib.hid (H8.out.fresh ba); clear ba; have i3 : (fun w' : World => w'.cell? ⟨gT, 1, none⟩ = some (.int .i64 11) ∧ w'.cell? ⟨gU, 1, none⟩ = some (.int .i64 11)) _ := ⟨by have := (Ha.out).t.c1; rwa [HT.out] at this, by have := (Ha.out).u.c1; rwa [HU.out] at this⟩; have Kx := Lib.hid (KC.out _ Ha.out); have hbl : Below wa.heap.size wa (wa.alloc (.cells #[.int .i64 0, .int .i64 0, .int .i64 P] 2)) := (Below.refl _ _).alloc (Nat.le_refl _) _; have Hal := Lib.hid (Ha.out.fresh hbl); have i4 : (fun w' : World => w'.cell? ⟨gT, 1, none⟩ = some (.int .i64 11) ∧ w'.cell? ⟨gU, 1, none⟩ = some (.int .i64 11)) _ := ⟨by have := (Hal.out).t.c1; rwa [HT.out] at this, by have := (Hal.out).u.c1; rwa [HU.out] at this⟩; clear hbl; have Ky := Lib.hid (KC.out _ Hal.out))
    | ((with_reducible refine Kx.out.mono ?_); rintro e wb ⟨rfl, rb, bb⟩; have Hb := Lib.hid (Ha.out.fresh bb); clear bb; have i3 : (fun w' : World => w'.cell? ⟨gT, 1, none⟩ = some (.int .i64 11) ∧ w'.cell? ⟨gU, 1, none⟩ = some (.int .i64 11)) _ := ⟨by have := (Hb.out).t.c1; rwa [HT.out] at this, by have := (Hb.out).u.c1; rwa [HU.out] at this⟩; have hbl : Below wb.heap.size wb (wb.alloc (.cells #[.int .i64 0, .int .i64 0, .int .i64 P] 2)) := (Below.refl _ _).alloc (Nat.le_refl _) _; have Hbl := Lib.hid (Hb.out.fresh hbl); have i4 : (fun w' : World => w'.cell? ⟨gT, 1, none⟩ = some (.int .i64 11) ∧ w'.cell? ⟨gU, 1, none⟩ = some (.int .i64 11)) _ := ⟨by have := (Hbl.out).t.c1; rwa [HT.out] at this, by have := (Hbl.out).u.c1; rwa [HU.out] at this⟩; have Ks := Lib.hid (sameEq (wb.alloc (.cells #[.int .i64 0, .int .i64 0, .int .i64 P] 2)) _ (some ⟨wb.heap.size, 0, none⟩) 3 3 3 [0, 0, P] (rb.keep hbl) (lit_i64 wb [0, 0, P]) (by omega)); clear hbl)
    | ((with_reducible refine Ky.out.mono ?_); rintro e wc ⟨rfl, rc, bc⟩; have Hc := Lib.hid (Hal.out.fresh bc); have i5 : (fun w' : World => w'.cell? ⟨gT, 1, none⟩ = some (.int .i64 11) ∧ w'.cell? ⟨gU, 1, none⟩ = some (.int .i64 11)) _ := ⟨by have := (Hc.out).t.c1; rwa [HT.out] at this, by have := (Hc.out).u.c1; rwa [HU.out] at this⟩; have Kt := Lib.hid (sameEq wc _ (some ⟨wa.heap.size, 0, none⟩) 3 3 3 [0, 0, P] rc ((show Reads .i64 (wa.alloc (.cells #[.int .i64 0, .int .i64 0, .int .i64 P] 2)) (some ⟨wa.heap.size, 0, none⟩) 3 [0, 0, P] from lit_i64 wa [0, 0, P]).keep bc) (by omega)); have Ku := Lib.hid (show Calls Try.prog 23 #[.slice (some ⟨wa.heap.size + 1, 0, none⟩) 3 3, .slice (some ⟨wa.heap.size, 0, none⟩) 3 3] wc fun e w' => e = .returned (.bool true) ∧ Below wc.heap.size wc w' from by have := Kt.out; rwa [show (wa.alloc (.cells #[.int .i64 0, .int .i64 0, .int .i64 P] 2)).heap.size = wa.heap.size + 1 by simp] at this); clear bc)
    | ((with_reducible refine Ks.out.mono ?_); rintro e wd ⟨rfl, bd⟩; have Hd := Lib.hid (Hbl.out.fresh bd); clear bd; have i6 : (fun w' : World => w'.cell? ⟨gT, 1, none⟩ = some (.int .i64 11) ∧ w'.cell? ⟨gU, 1, none⟩ = some (.int .i64 11)) _ := ⟨by have := (Hd.out).t.c1; rwa [HT.out] at this, by have := (Hd.out).u.c1; rwa [HU.out] at this⟩; have Kz := Lib.hid (KT.out _ Hd.out))
    | ((with_reducible refine Kt.out.mono ?_); rintro e wd ⟨rfl, bd⟩; have Hd := Lib.hid (Hc.out.fresh bd); clear bd; have i6 : (fun w' : World => w'.cell? ⟨gT, 1, none⟩ = some (.int .i64 11) ∧ w'.cell? ⟨gU, 1, none⟩ = some (.int .i64 11)) _ := ⟨by have := (Hd.out).t.c1; rwa [HT.out] at this, by have := (Hd.out).u.c1; rwa [HU.out] at this⟩; have Kz := Lib.hid (KT.out _ Hd.out))
    | ((with_reducible refine Ku.out.mono ?_); rintro e wd ⟨rfl, bd⟩; have Hd := Lib.hid (Hc.out.fresh bd); clear bd; have i6 : (fun w' : World => w'.cell? ⟨gT, 1, none⟩ = some (.int .i64 11) ∧ w'.cell? ⟨gU, 1, none⟩ = some (.int .i64 11)) _ := ⟨by have := (Hd.out).t.c1; rwa [HT.out] at this, by have := (Hd.out).u.c1; rwa [HU.out] at this⟩; have Kz := Lib.hid (KT.out _ Hd.out))
    | ((with_reducible refine Kz.out.mono ?_); rintro e we ⟨rfl, be⟩; have He := Lib.hid (Hd.out.fresh be); clear be; have i7 : (fun w' : World => w'.cell? ⟨gT, 1, none⟩ = some (.int .i64 11) ∧ w'.cell? ⟨gU, 1, none⟩ = some (.int .i64 11)) _ := ⟨by have := (He.out).t.c1; rwa [HT.out] at this, by have := (He.out).u.c1; rwa [HU.out] at this⟩))
  all_goals (go_wp2; go_ret; exact ⟨rfl, HB.out.trans (He.out.b.mono HB.out.size)⟩)

end Go.Proofs.Ytfnjbbokbdddpaa.M2
