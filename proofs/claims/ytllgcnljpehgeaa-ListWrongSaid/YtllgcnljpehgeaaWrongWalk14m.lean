/-
  The walk of ListWrong: for all lists of bytes it answers true and leaves all old memory as it was.
-/
import Derived.Test.YtllgcnljpehgeaaWith14m
import Derived.Deep.CutRange
namespace Go.Proofs.Ytllgcnljpehgeaa.M2
open Go.RowKit

theorem onCell {W : World} {g m i : Nat} {os : List Nat} (h : Reads .i64 W (some ⟨g, 0, none⟩) m (ints os)) (hm : os.length = m) (hi : i < m) : W.cell? ⟨g, i, none⟩ = some (.int .i64 ((os.getD i 0 : Nat) : Int)) := by
  obtain ⟨b, o, e, hl, hc⟩ := h.2 (by omega)
  simp only [Option.some.injEq, Addr.mk.injEq] at e
  obtain ⟨rfl, rfl, _⟩ := e
  have := hc i hi
  rw [Nat.zero_add] at this
  rw [this]
  have hi2 : i < os.length := by omega
  simp [ints, List.getD, hi2]

/-- Cells, cells without a head, and the list that hangs together. -/
structure WS (w : World) (gl : Nat) (as3 : Option Addr) (g L mm : Nat) (zs : List Int) (os : List Nat) (W : World) : Prop where
  l : Reads .i64 W (some ⟨gl, 0, none⟩) L zs
  s : Reads .i64 W as3 L (zs.set 1 0)
  o : Reads .i64 W (some ⟨g, 0, none⟩) mm (ints os)
  b : Below w.heap.size w W
theorem WS.fresh {w W W' : World} {gl g L mm : Nat} {as3 : Option Addr} {zs : List Int} {os : List Nat} (h : WS w gl as3 g L mm zs os W) (hb : Below W.heap.size W W') : WS w gl as3 g L mm zs os W' := ⟨h.l.keep hb, h.s.keep hb, h.o.keep hb, h.b.trans (hb.mono h.b.size)⟩

set_option maxRecDepth 100000 in
set_option maxHeartbeats 16000000 in
theorem wrongWalk {w : World} (ac : Option Addr) (nc cc : Nat) (xs : List Int) (many at0 : Int) (hx : ArgBytes w ac nc cc xs) (hnc : nc ≤ 140737488351232) (k0 : 0 ≤ many) (k1 : many ≤ 255) (j0 : 0 ≤ at0) (j1 : at0 ≤ 255) :
    Calls Try.prog 5 #[.slice ac nc cc, .int .u8 many, .int .u8 at0] w fun e w' => e = .returned (.bool true) ∧ Below w.heap.size w w' := by
  have C := chainAny w ac nc cc xs hx hnc (1 + many % 10) (by omega) (by omega)
  clear hx
  go_enter Try.func5, Try.ntmps5
  go_wp2_with fail
  refine C.mono ?_
  clear C
  rintro e w1 ⟨n, os, zs, gl, g, c, rfl, ⟨hn1, hn9⟩, hol, hos, hch, hlw, hbl, hgl, hoc⟩
  have hle : os.length ≤ n := by omega
  have hm1 : 1 ≤ os.length := by omega
  have hzl := hch.len
  obtain ⟨m, hm⟩ : ∃ m, os.length = m := ⟨_, rfl⟩
  have hq0 := Int.emod_nonneg at0 (show (m : Int) ≠ 0 by omega)
  have hq1 := Int.emod_lt_of_pos at0 (show (0 : Int) < (m : Int) by omega)
  obtain ⟨k, hk⟩ : ∃ k : Nat, at0 % (m : Int) = (k : Int) := ⟨(at0 % (m : Int)).toNat, by omega⟩
  have hkm : k < os.length := by omega
  obtain ⟨q, hq, eq⟩ := hos.at hkm
  obtain ⟨r, hr, er⟩ := hos.at (t := os.length - 1) (by omega)
  obtain ⟨p, hp, ep⟩ := hos.at (t := 0) (by omega)
  obtain ⟨P33, S33⟩ := hch.idle hos hle (by omega) hkm
  have PR := hch.round hos hle (by omega) hkm
  have PT := hch.stray hos hle (by omega) hkm
  obtain ⟨PS, S31⟩ := hch.short hos (by omega) hm1
  obtain ⟨PC, SC⟩ := hch.closed hos (by omega) hm1
  rw [hm] at PR er SC
  obtain ⟨m1, hm1'⟩ : ∃ m1, m - 1 = m1 := ⟨_, rfl⟩
  rw [hm1'] at PR er
  obtain ⟨a, ha⟩ : ∃ a, os.getD k 0 = a := ⟨_, rfl⟩
  obtain ⟨b, hb⟩ : ∃ b, os.getD m1 0 = b := ⟨_, rfl⟩
  obtain ⟨d, hd⟩ : ∃ d, os.getD 0 0 = d := ⟨_, rfl⟩
  obtain ⟨a1, ha1⟩ : ∃ a1, a + 1 = a1 := ⟨_, rfl⟩
  obtain ⟨a3, ha3⟩ : ∃ a3, a + 3 = a3 := ⟨_, rfl⟩
  obtain ⟨b3, hb3⟩ : ∃ b3, b + 3 = b3 := ⟨_, rfl⟩
  obtain ⟨L, hL⟩ : ∃ L, 3 + 5 * n = L := ⟨_, rfl⟩
  rw [ha, ha1] at P33 S33
  rw [hb, ha, hb3] at PR
  rw [ha, ha3, show (a : Int) + 1 = (a1 : Int) by omega] at PT
  rw [hd] at PC SC
  obtain ⟨o1, ho1⟩ : ∃ o1 : Int, (if 1 < m then 31 else 0) = o1 := ⟨_, rfl⟩
  rw [ho1] at SC
  have HO1 := Lib.hid ho1
  have q1 : IntKind.i64.wrap ((a : Int) + 1) = (a1 : Int) := by rw [show (a : Int) + 1 = a1 by omega]; exact IntWalk.i64_in _ (by omega)
  have q3 : IntKind.i64.wrap ((a : Int) + 3) = (a3 : Int) := by rw [show (a : Int) + 3 = a3 by omega]; exact IntWalk.i64_in _ (by omega)
  have q4 : IntKind.i64.wrap ((b : Int) + 3) = (b3 : Int) := by rw [show (b : Int) + 3 = b3 by omega]; exact IntWalk.i64_in _ (by omega)
  have q5 : IntKind.i64.wrap ((m : Int) - 1) = (m1 : Int) := by rw [show (m : Int) - 1 = m1 by omega]; exact IntWalk.i64_in _ (by omega)
  have kk : (k : Int) < m := by omega
  have mm1 : (m1 : Int) < m := by omega
  have m0 : (0 : Int) < m := by omega
  have m00 : 0 < m := by omega
  have m9 : (m : Int) ≤ 9 := by omega
  have hr1 : Reads .i64 w1 (some ⟨gl, 0, none⟩) L zs := by have := hlw.1.reads; rw [hzl, hL] at this; exact this
  have HA1 := Lib.hid (show a1 < L ∧ a3 < L ∧ b3 < L ∧ d < L by omega)
  have HKM := Lib.hid (show k < m ∧ m1 < m ∧ 0 < m by omega)
  have HLN := Lib.hid (show 1 < L ∧ L ≤ 200 by omega)
  have HR1 := Lib.hid hr1
  have HO := Lib.hid (show Reads .i64 w1 (some ⟨g, 0, none⟩) m (ints os) by have := hlw.2.1; rwa [hm] at this)
  have HB := Lib.hid hlw.2.2
  have HM := Lib.hid hm
  have HZ := Lib.hid (show zs.length = L by rw [hzl]; exact hL)
  have HA := Lib.hid ha
  have HBb := Lib.hid hb
  have HD := Lib.hid hd
  have HP33 := Lib.hid P33
  have HS33 := Lib.hid S33
  have HPR := Lib.hid PR
  have HPT := Lib.hid PT
  have HPS := Lib.hid PS
  have HS31 := Lib.hid S31
  have HPC := Lib.hid PC
  have HSC := Lib.hid SC
  rw [hm, hL]
  clear hch hlw hos hol hzl hbl hgl hoc hle hm1 hq0 hq1 hkm hq eq hr er hp ep P33 S33 PR PT PS S31 PC SC ha hb hd ha1 ha3 hb3 hL ho1 hm hm1' hr1
  have hkk : at0 % (m : Int) = (k : Int) := hk
  clear hk
  have C := withAny w1 (some ⟨gl, 0, none⟩) L L zs HR1.out HLN.out.2 1 HLN.out.1 0
  go_wp2_with fail
  refine C.mono ?_
  clear C
  rintro e w2 ⟨as3, cs3, rfl, s2, b2⟩
  rw [List.length_set, HZ.out] at s2 ⊢
  have S2 := Lib.hid (show WS w gl as3 g L m zs os w2 from ⟨HR1.out.keep b2, s2, HO.out.keep b2, HB.out.trans (b2.mono HB.out.size)⟩)
  clear s2 b2 HR1 HO HB
  go_upto_if 30 with (fail)
  go_cut [11] from 28 to 30 (fun x wx => x = .int .u16 o1 ∧ Hid (w2 = wx))
  case first =>
    have ho := HO1.out
    by_cases h1 : 1 < m
    · rw [if_pos h1] at ho
      subst ho
      have h2 : (1 : Int) < m := by omega
      go_wp2
      go_meet
      exact ⟨rfl, rfl⟩
    · rw [if_neg h1] at ho
      subst ho
      have h2 : (m : Int) ≤ 1 := by omega
      go_wp2
      go_meet
      exact ⟨rfl, rfl⟩
  case' rest => skip
  obtain ⟨rfl, hw2⟩ := hcut
  have hw2 : w2 = wc := hw2
  subst hw2
  have hd2 := (Below.refl w2.heap.size w2).drew
  have S3 := Lib.hid (S2.out.fresh hd2)
  have HCL := Lib.hid (fun (W : World) (h : WS w gl as3 g L m zs os W) => (show W.cell? ⟨g, k, none⟩ = some (.int .i64 (a : Int)) ∧ W.cell? ⟨g, m1, none⟩ = some (.int .i64 (b : Int)) ∧ W.cell? ⟨g, 0, none⟩ = some (.int .i64 (d : Int)) from
    ⟨by rw [onCell h.o HM.out HKM.out.1, HA.out], by rw [onCell h.o HM.out HKM.out.2.1, HBb.out], by rw [onCell h.o HM.out HKM.out.2.2, HD.out]⟩))
  obtain ⟨i0, i1, i2⟩ := HCL.out _ S2.out
  obtain ⟨j0', j1', j2'⟩ := HCL.out _ S3.out
  have KW := Lib.hid (fun (W : World) (h : WS w gl as3 g L m zs os W) (i : Nat) (hi : i < L) (x : Int) => withAny W (some ⟨gl, 0, none⟩) L L zs h.l HLN.out.2 i hi x)
  have KV := Lib.hid (fun (W : World) (h : WS w gl as3 g L m zs os W) (x : Int) => withAny W as3 L cs3 (zs.set 1 0) h.s HLN.out.2 d HA1.out.2.2.2 x)
  have HZ1 := Lib.hid (fun (i : Nat) (x : Int) => show (zs.set i x).length = L by rw [List.length_set]; exact HZ.out)
  have HZ2 := Lib.hid (show ((zs.set 1 0).set d (-1)).length = L by rw [List.length_set, List.length_set]; exact HZ.out)
  have HR30 := Lib.hid (show ∀ (zz : List Int) (pp : List Nat), soundV zz pp true = 30 from fun _ _ => rfl)
  have KHP33 := Lib.hid (fun (W : World) (ao : Option Addr) (cp : Nat) (h : Reads .i64 W ao L (zs.set a1 0)) => (show Calls Try.prog 21 #[.slice ao L cp] W (fun e w' => e = .returned (.int .u16 33) ∧ Below W.heap.size W w') from by have C := soundLAny W ao L cp _ h HLN.out.2 _ _ HP33.out; rw [HS33.out] at C; exact C))
  have KHPR := Lib.hid (fun (W : World) (ao : Option Addr) (cp : Nat) (h : Reads .i64 W ao L (zs.set b3 (a : Int))) => (show Calls Try.prog 21 #[.slice ao L cp] W (fun e w' => e = .returned (.int .u16 30) ∧ Below W.heap.size W w') from by have C := soundLAny W ao L cp _ h HLN.out.2 _ _ HPR.out; rw [HR30.out] at C; exact C))
  have KHPT := Lib.hid (fun (W : World) (ao : Option Addr) (cp : Nat) (h : Reads .i64 W ao L (zs.set a3 (a1 : Int))) => (show Calls Try.prog 21 #[.slice ao L cp] W (fun e w' => e = .returned (.int .u16 30) ∧ Below W.heap.size W w') from by have C := soundLAny W ao L cp _ h HLN.out.2 _ _ HPT.out; rw [HR30.out] at C; exact C))
  have KHPS := Lib.hid (fun (W : World) (ao : Option Addr) (cp : Nat) (h : Reads .i64 W ao L (zs.set 1 0)) => (show Calls Try.prog 21 #[.slice ao L cp] W (fun e w' => e = .returned (.int .u16 31) ∧ Below W.heap.size W w') from by have C := soundLAny W ao L cp _ h HLN.out.2 _ _ HPS.out; rw [HS31.out] at C; exact C))
  have KHPC := Lib.hid (fun (W : World) (ao : Option Addr) (cp : Nat) (h : Reads .i64 W ao L ((zs.set 1 0).set d (-1))) => (show Calls Try.prog 21 #[.slice ao L cp] W (fun e w' => e = .returned (.int .u16 o1) ∧ Below W.heap.size W w') from by have C := soundLAny W ao L cp _ h HLN.out.2 _ _ HPC.out; rw [HSC.out] at C; exact C))
  have C1 := Lib.hid (known w2.drew)
  clear hd2
  go_wp2
  go_region_held3 (fun w' => w'.cell? ⟨g, k, none⟩ = some (.int .i64 (a : Int)) ∧ w'.cell? ⟨g, m1, none⟩ = some (.int .i64 (b : Int)) ∧ w'.cell? ⟨g, 0, none⟩ = some (.int .i64 (d : Int))) (first | with_reducible exact ⟨k10, l10, m10_⟩ | with_reducible exact ⟨k9, l9, m9_⟩ | with_reducible exact ⟨k8, l8, m8_⟩ | with_reducible exact ⟨k7, l7, m7_⟩ | with_reducible exact ⟨k6, l6, m6_⟩ | with_reducible exact ⟨k5, l5, m5_⟩ | with_reducible exact ⟨k4, l4, m4_⟩ | with_reducible exact ⟨k3, l3, m3_⟩ | with_reducible exact ⟨k2, l2, m2_⟩ | with_reducible exact ⟨k1, l1, m1_⟩ | with_reducible exact ⟨j0', j1', j2'⟩ | with_reducible exact ⟨i0, i1, i2⟩) (first
    | ((with_reducible refine C10.out.mono ?_); rintro e V10 ⟨rfl, f10⟩; have S13 := Lib.hid (S12.out.fresh f10); obtain ⟨k10, l10, m10_⟩ := HCL.out _ S13.out; clear f10)
    | ((with_reducible refine C9.out.mono ?_); rintro e V9 ⟨a9_, c9_, rfl, h9, f9⟩; have hz9 := HZ2.out; simp only [hz9] at h9 ⊢; clear hz9; have R9 := Lib.hid h9; have S12 := Lib.hid (S11.out.fresh f9); obtain ⟨k9, l9, m9_⟩ := HCL.out _ S12.out; have C10 := Lib.hid (KHPC.out V9 a9_ c9_ R9.out); clear h9 f9)
    | ((with_reducible refine C8.out.mono ?_); rintro e V8 ⟨rfl, f8⟩; have S11 := Lib.hid (S10.out.fresh f8); obtain ⟨k8, l8, m8_⟩ := HCL.out _ S11.out; have C9 := Lib.hid (KV.out V8 S11.out (-1)); clear f8)
    | ((with_reducible refine C7.out.mono ?_); rintro e V7 ⟨rfl, f7⟩; have S10 := Lib.hid (S9.out.fresh f7); obtain ⟨k7, l7, m7_⟩ := HCL.out _ S10.out; have C8 := Lib.hid (KHPS.out V7 as3 cs3 S10.out.s); clear f7)
    | ((with_reducible refine C6.out.mono ?_); rintro e V6 ⟨a6_, c6_, rfl, h6, f6⟩; have hz6 := HZ1.out; simp only [hz6] at h6 ⊢; clear hz6; have R6 := Lib.hid h6; have S9 := Lib.hid (S8.out.fresh f6); obtain ⟨k6, l6, m6_⟩ := HCL.out _ S9.out; have C7 := Lib.hid (KHPT.out V6 a6_ c6_ R6.out); clear h6 f6)
    | ((with_reducible refine C5.out.mono ?_); rintro e V5 ⟨rfl, f5⟩; have S8 := Lib.hid (S7.out.fresh f5); obtain ⟨k5, l5, m5_⟩ := HCL.out _ S8.out; have C6 := Lib.hid (KW.out V5 S8.out a3 HA1.out.2.1 (a1 : Int)); clear f5)
    | ((with_reducible refine C4.out.mono ?_); rintro e V4 ⟨a4_, c4_, rfl, h4, f4⟩; have hz4 := HZ1.out; simp only [hz4] at h4 ⊢; clear hz4; have R4 := Lib.hid h4; have S7 := Lib.hid (S6.out.fresh f4); obtain ⟨k4, l4, m4_⟩ := HCL.out _ S7.out; have C5 := Lib.hid (KHPR.out V4 a4_ c4_ R4.out); clear h4 f4)
    | ((with_reducible refine C3.out.mono ?_); rintro e V3 ⟨rfl, f3⟩; have S6 := Lib.hid (S5.out.fresh f3); obtain ⟨k3, l3, m3_⟩ := HCL.out _ S6.out; have C4 := Lib.hid (KW.out V3 S6.out b3 HA1.out.2.2.1 (a : Int)); clear f3)
    | ((with_reducible refine C2.out.mono ?_); rintro e V2 ⟨a2_, c2_, rfl, h2, f2⟩; have hz2 := HZ1.out; simp only [hz2] at h2 ⊢; clear hz2; have R2 := Lib.hid h2; have S5 := Lib.hid (S4.out.fresh f2); obtain ⟨k2, l2, m2_⟩ := HCL.out _ S5.out; have C3 := Lib.hid (KHP33.out V2 a2_ c2_ R2.out); clear h2 f2)
    | ((with_reducible refine C1.out.mono ?_); rintro e V1 ⟨rfl, f1⟩; have S4 := Lib.hid (S3.out.fresh f1); obtain ⟨k1, l1, m1_⟩ := HCL.out _ S4.out; have C2 := Lib.hid (KW.out V1 S4.out a1 HA1.out.1 0); clear f1))
  all_goals
    go_wp2
    go_ret
    exact ⟨by simp, S13.out.b⟩

end Go.Proofs.Ytllgcnljpehgeaa.M2
