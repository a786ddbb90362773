/-
  The walk of OwnerRuns: for all choices and every operation it answers true and leaves all old memory as it was.
-/
import Derived.Test.YthefdglocnalhaaRunN15m
import Derived.Test.YthefdglocnalhaaRunPl15m
import Derived.Test.YthefdglocnalhaaKno15m
import Derived.Test.YthefdglocnalhaaRefB15m
import Derived.Test.YthefdglocnalhaaRefW15m
import Derived.Test.YthefdglocnalhaaSame15m
import Derived.Test.YthefdglocnalhaaRefSee15m
import Derived.Deep.CutRange
namespace Go.Proofs.Ythefdglocnalhaa.M2
open Go.RowKit

theorem neqRes (a b : Int) (w : World) : (binOp .neq 49 (.agg #[.int .u8 a, .int .i32 b]) (.agg #[.int .u8 a, .int .i32 b])).run Try.prog w = .ok (.bool false) w := by
  simp only [binOp]
  have hF : (Op.equalIn Op.maxDepth 49 (.agg #[.int .u8 a, .int .i32 b]) (.agg #[.int .u8 a, .int .i32 b])).run Try.prog w = .ok true w := eqRes a b w
  simp [Op.equal, hF]

/-- What holds ahead of the comparison. -/
structure RE (w : World) (p go gr gt gu ga gb : Nat) (kd vl : Int) (v : Value) (a7 : Option Addr) (m7 c7 : Nat) (zs : List Int) (st sd : Int) (T : Th) (rk rv : Int) (W : World) : Prop where
  k : RN w p go gr gt gu kd vl v (.slice a7 m7 c7) 18 zs zs st sd T T (.slice none 0 0) (.slice none 0 0) W
  e : zs.length = m7
  x : RB W ga rk rv
  y : RB W gb rk rv
section
variable {w W V : World} {p go gr gt gu ga gb : Nat} {kd vl : Int} {v : Value} {a7 : Option Addr} {m7 c7 : Nat} {zs : List Int} {st sd : Int} {T : Th} {rk rv : Int}
theorem RE.fresh (h : RE w p go gr gt gu ga gb kd vl v a7 m7 c7 zs st sd T rk rv W) (hb : Below W.heap.size W V) : RE w p go gr gt gu ga gb kd vl v a7 m7 c7 zs st sd T rk rv V :=
  ⟨h.k.fresh hb, h.e, h.x.keep hb, h.y.keep hb⟩
theorem RE.cells (h : RE w p go gr gt gu ga gb kd vl v a7 m7 c7 zs st sd T rk rv W) : W.cell? ⟨gt, 0, none⟩ = some (.int .i64 T.ti) ∧ W.cell? ⟨gt, 1, none⟩ = some (.int .i64 T.pc) ∧ W.cell? ⟨gt, 2, none⟩ = some (.int .i64 T.rc) ∧ W.cell? ⟨gt, 3, none⟩ = some (.int .i64 T.sq) ∧ W.cell? ⟨gt, 4, none⟩ = some (.int .i64 T.wo) ∧ W.cell? ⟨gt, 5, none⟩ = some (.int .i64 T.lk) ∧ W.cell? ⟨gt, 6, none⟩ = some (.int .i64 T.cu) ∧ W.cell? ⟨gt, 7, none⟩ = some (.int .i64 T.pv) ∧ W.cell? ⟨gt, 8, none⟩ = some (.int .i64 T.nt) ∧ W.cell? ⟨gt, 9, none⟩ = some (.int .i64 T.mx) ∧ W.cell? ⟨gt, 10, none⟩ = some (.int .i64 T.ps) ∧ W.cell? ⟨gt, 11, none⟩ = some (.int .i64 T.rn) ∧ W.cell? ⟨gt, 12, none⟩ = some (.slice none 0 0) ∧ W.cell? ⟨gu, 0, none⟩ = some (.int .i64 T.ti) ∧ W.cell? ⟨gu, 1, none⟩ = some (.int .i64 T.pc) ∧ W.cell? ⟨gu, 2, none⟩ = some (.int .i64 T.rc) ∧ W.cell? ⟨gu, 3, none⟩ = some (.int .i64 T.sq) ∧ W.cell? ⟨gu, 4, none⟩ = some (.int .i64 T.wo) ∧ W.cell? ⟨gu, 5, none⟩ = some (.int .i64 T.lk) ∧ W.cell? ⟨gu, 6, none⟩ = some (.int .i64 T.cu) ∧ W.cell? ⟨gu, 7, none⟩ = some (.int .i64 T.pv) ∧ W.cell? ⟨gu, 8, none⟩ = some (.int .i64 T.nt) ∧ W.cell? ⟨gu, 9, none⟩ = some (.int .i64 T.mx) ∧ W.cell? ⟨gu, 10, none⟩ = some (.int .i64 T.ps) ∧ W.cell? ⟨gu, 11, none⟩ = some (.int .i64 T.rn) ∧ W.cell? ⟨gu, 12, none⟩ = some (.slice none 0 0) ∧ W.cell? ⟨ga, 0, none⟩ = some (.int .u8 rk) ∧ W.cell? ⟨ga, 1, none⟩ = some (.int .i32 rv) ∧ W.cell? ⟨gb, 0, none⟩ = some (.int .u8 rk) ∧ W.cell? ⟨gb, 1, none⟩ = some (.int .i32 rv) ∧ W.cell? ⟨gr, 1, none⟩ = some (.slice a7 m7 c7) :=
  ⟨h.k.t.c0, h.k.t.c1, h.k.t.c2, h.k.t.c3, h.k.t.c4, h.k.t.c5, h.k.t.c6, h.k.t.c7, h.k.t.c8, h.k.t.c9, h.k.t.c10, h.k.t.c11, h.k.t.c12, h.k.y.c0, h.k.y.c1, h.k.y.c2, h.k.y.c3, h.k.y.c4, h.k.y.c5, h.k.y.c6, h.k.y.c7, h.k.y.c8, h.k.y.c9, h.k.y.c10, h.k.y.c11, h.k.y.c12, h.x.c0, h.x.c1, h.y.c0, h.y.c1, h.k.r.c1⟩
theorem RE.sameE (h : RE w p go gr gt gu ga gb kd vl v a7 m7 c7 zs st sd T rk rv W) :
    Calls Try.prog 23 #[.agg #[.int .i64 T.ti, .int .i64 T.pc, .int .i64 T.rc, .int .i64 T.sq, .int .i64 T.wo, .int .i64 T.lk, .int .i64 T.cu, .int .i64 T.pv, .int .i64 T.nt, .int .i64 T.mx, .int .i64 T.ps, .int .i64 T.rn, .slice none 0 0], .agg #[.int .i64 T.ti, .int .i64 T.pc, .int .i64 T.rc, .int .i64 T.sq, .int .i64 T.wo, .int .i64 T.lk, .int .i64 T.cu, .int .i64 T.pv, .int .i64 T.nt, .int .i64 T.mx, .int .i64 T.ps, .int .i64 T.rn, .slice none 0 0]] W fun e w' => e = .returned (.bool true) ∧ RE w p go gr gt gu ga gb kd vl v a7 m7 c7 zs st sd T rk rv w' :=
  (sameT W T none none 0 0 0 [] (Its.zero _ _) (Its.zero _ _) (by omega)).mono fun e w' ⟨he, hb⟩ => ⟨he, h.fresh hb⟩
theorem RE.cellsE (h : RE w p go gr gt gu ga gb kd vl v a7 m7 c7 zs st sd T rk rv W) :
    Calls Try.prog 25 #[.pointer (some ⟨p, 0, none⟩)] W fun e w' => e = .returned (.slice (some ⟨W.heap.size, 0, none⟩) m7 m7) ∧ Reads .i64 w' (some ⟨W.heap.size, 0, none⟩) m7 zs ∧ RE w p go gr gt gu ga gb kd vl v a7 m7 c7 zs st sd T rk rv w' := by
  have C := cells1 ⟨_, h.k.d.m⟩
  rw [h.e] at C
  refine C.mono ?_
  rintro e w' ⟨rfl, o, b⟩
  obtain ⟨aq, cq, e, r, _⟩ := _root_.Go.Proofs.Ythefdglocnalhaa.reads_own o
  simp only [Value.slice.injEq] at e
  obtain ⟨rfl, _, rfl⟩ := e
  exact ⟨rfl, r, h.fresh b⟩
theorem RE.sameC (h : RE w p go gr gt gu ga gb kd vl v a7 m7 c7 zs st sd T rk rv W) {g : Option Addr} (r : Reads .i64 W g m7 zs) :
    Calls Try.prog 24 #[.slice g m7 m7, .slice a7 m7 c7] W fun e w' => e = .returned (.bool true) ∧ RE w p go gr gt gu ga gb kd vl v a7 m7 c7 zs st sd T rk rv w' := by
  have o := h.k.d.o
  rw [h.e] at o
  obtain ⟨aq, cq, e, r2, _⟩ := _root_.Go.Proofs.Ythefdglocnalhaa.reads_own o
  simp only [Value.slice.injEq] at e
  obtain ⟨rfl, _, rfl⟩ := e
  exact (sameEq W g a7 m7 m7 c7 zs r r2 (by have := h.k.d.m.room; have := h.e; omega)).mono fun e w' ⟨he, hb⟩ => ⟨he, h.fresh hb⟩
end

/-- What holds at each round's head. -/
def RunRel (w : World) (p go gr gt gu : Nat) (kd vl : Int) (nc : Nat) (kv : Value) (wr : World) : Prop :=
  ∃ (j : Nat) (v u : Value) (zs : List Int) (st sd : Int) (T : Th), j ≤ nc ∧ kv = .int .i64 (j : Int) ∧ RN w p go gr gt gu kd vl v u 18 zs zs st sd T T (.slice none 0 0) (.slice none 0 0) wr ∧ (0 ≤ T.rc ∧ T.rc ≤ 1000) ∧ (0 ≤ st ∧ st ≤ 1 + 2 * (j : Int)) ∧ (0 ≤ sd ∧ sd ≤ 1 + 2 * (j : Int))

/-- What holds behind what others write. -/
def CutRel (w : World) (p go gr gt gu : Nat) (kd vl : Int) (j : Nat) (T : Th) (wx : World) : Prop :=
  ∃ (v u : Value) (zs : List Int) (st sd : Int), RN w p go gr gt gu kd vl v u 18 zs zs st sd T T (.slice none 0 0) (.slice none 0 0) wx ∧ (0 ≤ st ∧ st ≤ 2 + 2 * (j : Int)) ∧ (0 ≤ sd ∧ sd ≤ 2 + 2 * (j : Int))

set_option maxRecDepth 100000 in
set_option maxHeartbeats 16000000 in
theorem runsWalk {w : World} (ac : Option Addr) (nc cc : Nat) (xs : List Int) (kd vl : Int) (ad' : Option Addr) (nd cd : Nat) (ds : List Int) (hx : ArgBytes w ac nc cc xs) (_ : nc ≤ 140737488351232) (ho : OpOk (kd, vl)) (hd : ArgBytes w ad' nd cd ds) (_ : nd ≤ 140737488351232) :
    Calls Try.prog 4 #[.slice ac nc cc, .agg #[.int .u8 kd, .int .i32 vl], .slice ad' nd cd] w fun e w' => e = .returned (.bool true) ∧ Below w.heap.size w w' := by
  have HX := Lib.hid hx
  have HDD := Lib.hid hd
  have HO := Lib.hid ho
  clear hx hd ho
  by_cases hl : 200 < nc + nd
  · have l0 : decide ((200 : Int) < (nc : Int) + nd) = true := decide_eq_true (by omega)
    go_enter Try.func4, Try.ntmps4
    go_upto_region 1 with (fail)
    generalize hW : w.alloc (.cells #[.int .u8 kd, .int .i32 vl] 27) = W
    have HOB := Lib.hid (show OBx W w.heap.size kd vl by subst hW; exact OBx.new _ _ _)
    have HB := Lib.hid (show Below w.heap.size w W by subst hW; exact (Below.refl _ _).alloc (Nat.le_refl _) _)
    clear hW
    go_wp2_with fail
    refine (known W).mono ?_
    rintro e w1 ⟨rfl, b1⟩
    have HB1 := Lib.hid (HB.out.trans (b1.mono HB.out.size))
    clear b1
    go_wp2
    go_ret
    exact ⟨rfl, HB1.out⟩
  have l0 : decide ((200 : Int) < (nc : Int) + nd) = false := decide_eq_false (by omega)
  have HL := Lib.hid (show nc + nd ≤ 200 by omega)
  clear hl
  go_enter Try.func4, Try.ntmps4
  go_upto_region 1 with (fail)
  generalize hW : w.alloc (.cells #[.int .u8 kd, .int .i32 vl] 27) = W
  have HOB := Lib.hid (show OBx W w.heap.size kd vl by subst hW; exact OBx.new _ _ _)
  have HB := Lib.hid (show Below w.heap.size w W by subst hW; exact (Below.refl _ _).alloc (Nat.le_refl _) _)
  clear hW
  obtain ⟨T0, hT0⟩ : ∃ T0 : Th, ({ t0 with ti := 1 } : Th) = T0 := ⟨_, rfl⟩
  have HT0 := Lib.hid (show thN T0 = .agg #[.int .i64 1, .int .i64 0, .int .i64 0, .int .i64 0, .int .i64 0, .int .i64 0, .int .i64 0, .int .i64 0, .int .i64 0, .int .i64 0, .int .i64 0, .int .i64 0, .slice none 0 0] by subst hT0; rfl)
  have HRC0 := Lib.hid (show ∀ x, 0 ≤ (bgT T0 x).rc ∧ (bgT T0 x).rc ≤ 1000 by subst hT0; intro x; exact ⟨Int.le_refl _, Int.zero_le_ofNat 1000⟩)
  clear hT0
  go_wp2_with fail
  refine (known W).mono ?_
  rintro e w1 ⟨rfl, b1⟩
  clear l0
  have HB1 := Lib.hid (HB.out.trans (b1.mono HB.out.size))
  have HOB := Lib.hid (HOB.out.keep b1)
  clear b1 HB
  go_wp2_with fail
  refine (openIn 3 (by omega) (by omega) w1).mono ?_
  rintro e w2 ⟨rfl, m2, b2⟩
  have HM := Lib.hid (show Mem1 w2 w1.heap.size w1.heap.size 18 [0, 0, 0] 1 from m2)
  have HB2 := Lib.hid (HB1.out.trans (b2.mono HB1.out.size))
  have HOB := Lib.hid (HOB.out.keep b2)
  have HLP := Lib.hid HB1.out.size
  clear m2 b2 HB1
  generalize w1.heap.size = p at *
  go_wp2_with fail
  refine (refOpenIn 3 (by omega) (by omega) w2).mono ?_
  rintro e w3 ⟨u, rfl, o3, b3⟩
  obtain ⟨v, mv⟩ := HM.out
  have HD := Lib.hid (show DM w p v u 18 [0, 0, 0] 1 [0, 0, 0] w3 from
    ⟨(mv.fresh b3).lower HLP.out, own_low o3 HB2.out.size, fun g hg e => by have h1 := (o3.lt g hg).1; have h2 := (mv.rowLt e).2; omega, HB2.out.trans (b3.mono HB2.out.size)⟩)
  have HOB := Lib.hid (HOB.out.keep b3)
  obtain ⟨au, cu, eu⟩ := ownShape o3
  subst eu
  clear HM mv o3 b3 HB2 HLP
  go_upto_region 5 with (fail)
  generalize hW4 : w3.alloc (.cells #[.int .i64 18, .slice au 3 cu, .int .i64 1] 37) = W4
  have f4 : Below w3.heap.size w3 W4 := by subst hW4; exact (Below.refl _ _).alloc (Nat.le_refl _) _
  have HR := Lib.hid (show Boxed W4 w3.heap.size (.int .i64 18) (.slice au 3 cu) (.int .i64 1) by subst hW4; exact Boxed.new _ _ _ _)
  have HLR := Lib.hid HD.out.b.size
  have HD := Lib.hid (HD.out.fresh f4)
  have HOB := Lib.hid (HOB.out.keep f4)
  clear hW4 f4
  generalize w3.heap.size = gr at *
  have C := beginN W4 T0 kd vl HO.out
  have C2 := fun V => refBegin V T0 none 0 0 kd vl HO.out
  unfold RBPost at C2
  simp only [thN_eq] at C2
  rw [HT0.out] at C
  simp only [HT0.out] at C2
  obtain ⟨T, hT⟩ : ∃ T, bgT T0 (wd kd vl) = T := ⟨_, rfl⟩
  obtain ⟨bb, hbb⟩ : ∃ bb, (T0.pc == 0) = bb := ⟨_, rfl⟩
  have HRC := Lib.hid (show 0 ≤ T.rc ∧ T.rc ≤ 1000 by rw [← hT]; exact HRC0.out _)
  simp only [hT, hbb] at C C2
  rw [show thN T = .agg #[.int .i64 T.ti, .int .i64 T.pc, .int .i64 T.rc, .int .i64 T.sq, .int .i64 T.wo, .int .i64 T.lk, .int .i64 T.cu, .int .i64 T.pv, .int .i64 T.nt, .int .i64 T.mx, .int .i64 T.ps, .int .i64 T.rn, .slice none 0 0] from rfl] at C
  simp only [show thN T = .agg #[.int .i64 T.ti, .int .i64 T.pc, .int .i64 T.rc, .int .i64 T.sq, .int .i64 T.wo, .int .i64 T.lk, .int .i64 T.cu, .int .i64 T.pv, .int .i64 T.nt, .int .i64 T.mx, .int .i64 T.ps, .int .i64 T.rn, .slice none 0 0] from rfl] at C2
  have HCC := Lib.hid C
  have HC2 := Lib.hid C2
  have o0 := HOB.out.c0
  have o1 := HOB.out.c1
  clear C C2 hT hbb HT0 HRC0
  go_wp2_with fail
  with_reducible refine HCC.out.mono ?_
  clear HCC o0 o1
  rintro e w5 ⟨rfl, b5⟩
  go_upto_region 6 with (fail)
  generalize hW6 : w5.alloc (.cells #[.int .i64 T.ti, .int .i64 T.pc, .int .i64 T.rc, .int .i64 T.sq, .int .i64 T.wo, .int .i64 T.lk, .int .i64 T.cu, .int .i64 T.pv, .int .i64 T.nt, .int .i64 T.mx, .int .i64 T.ps, .int .i64 T.rn, .slice none 0 0] 25) = W6
  have f6 : Below w5.heap.size w5 W6 := by subst hW6; exact (Below.refl _ _).alloc (Nat.le_refl _) _
  have HT := Lib.hid (show TX W6 w5.heap.size T (.slice none 0 0) by subst hW6; exact TX.new w5 T _)
  have f6' := b5.trans (f6.mono b5.size)
  have HLT := Lib.hid (Nat.le_trans HD.out.b.size b5.size)
  have HR := Lib.hid (HR.out.keep f6')
  have HD := Lib.hid (HD.out.fresh f6')
  have HOB := Lib.hid (HOB.out.keep f6')
  clear hW6 f6 f6' b5
  generalize w5.heap.size = gt at *
  have o0 := HOB.out.c0
  have o1 := HOB.out.c1
  go_wp2_with fail
  with_reducible refine (HC2.out _).mono ?_
  clear HC2 o0 o1
  rintro e w7 ⟨rfl, b7⟩
  go_upto_region 7 with (fail)
  generalize hW8 : w7.alloc (.cells #[.int .i64 T.ti, .int .i64 T.pc, .int .i64 T.rc, .int .i64 T.sq, .int .i64 T.wo, .int .i64 T.lk, .int .i64 T.cu, .int .i64 T.pv, .int .i64 T.nt, .int .i64 T.mx, .int .i64 T.ps, .int .i64 T.rn, .slice none 0 0] 25) = W8
  have f8 : Below w7.heap.size w7 W8 := by subst hW8; exact (Below.refl _ _).alloc (Nat.le_refl _) _
  have f8' := b7.trans (f8.mono b7.size)
  have HRN := Lib.hid (show RN w p w.heap.size gr gt w7.heap.size kd vl v (.slice au 3 cu) 18 [0, 0, 0] [0, 0, 0] 1 1 T T (.slice none 0 0) (.slice none 0 0) W8 from
    ⟨HD.out.fresh f8', HOB.out.keep f8', HR.out.keep f8', HT.out.keep f8', by subst hW8; exact TX.new w7 T _, ⟨HLR.out, HLT.out, Nat.le_trans HD.out.b.size b7.size⟩, by have := HT.out.lt; have := b7.size; omega⟩)
  clear hW8 f8 f8' b7 HR HD HOB HT HLR HLT
  generalize w7.heap.size = gu at *
  go_wp2_with fail
  go_loopw [14] (RunRel w p w.heap.size gr gt gu kd vl nc) (fun kv _ => nc - (intOf kv).toNat)
  case atStart => exact ⟨0, v, .slice au 3 cu, [0, 0, 0], 1, 1, T, Nat.zero_le _, rfl, HRN.out, HRC.out, by omega, by omega⟩
  case round =>
    clear HRN HRC
    obtain ⟨j, v, u, zs, st, sd, T, hj, rfl, hK, hrc, hst, hsd⟩ := hrel
    by_cases hlt : j < nc
    · have i1 : (j : Int) < nc := by omega
      have HXR := HX.out.1.keep hK.d.b
      have HDR := HDD.out.1.keep hK.d.b
      obtain ⟨b, off, rfl, lb, hc⟩ := HXR.2 (by omega)
      have c0 := hc j hlt
      have hq := HX.out.2.2.2 (xs.getD j 0) (by simp [List.getD, show j < xs.length by have := HX.out.1.1; omega])
      have HJ := Lib.hid (show j < nc ∧ j ≤ 200 by have := HL.out; omega)
      have HRC := Lib.hid hrc
      have HST := Lib.hid hst
      have HSD := Lib.hid hsd
      have HK := Lib.hid hK
      have HDH := Lib.hid HDR
      clear hc HXR HDR hrc hst hsd hK lb hj hlt
      generalize xs.getD j 0 = q at *
      obtain ⟨q0, q1⟩ := hq
      go_upto_if 71 with (fail)
      go_cut [15, 16, 17, 18] from 60 to 169 (fun a1 a2 a3 a4 wx => Hid (CutRel w p w.heap.size gr gt gu kd vl j T wx))
      case first =>
        by_cases h4 : q % 4 = 0
        · have b4 : (q % 4 == 0) = true := by simp [h4]
          by_cases hd : j < nd
          · have i2 : (j : Int) < nd := by omega
            obtain ⟨bd, offd, rfl, lbd, hcd⟩ := HDH.out.2 (by omega)
            have d0 := hcd j hd
            have hqd := HDD.out.2.2.2 (ds.getD j 0) (by simp [List.getD, show j < ds.length by have := HDD.out.1.1; omega])
            clear hcd lbd hd
            generalize ds.getD j 0 = r at *
            obtain ⟨r0, r1⟩ := hqd
            by_cases h5 : r % 5 = 0
            · have b5 : (r % 5 == 0) = true := by simp [h5]
              have o0 := HK.out.o.c0
              have o1 := HK.out.o.c1
              have HCO := Lib.hid (fun V => refOp kd vl HO.out.1.1 HO.out.1.2 HO.out.2.1 HO.out.2.2 V)
              go_wp2_with fail
              with_reducible refine (HCO.out _).mono ?_
              clear o0 o1 HCO
              rintro e w4 ⟨rfl, f4⟩
              have HK := Lib.hid (HK.out.fresh f4.below)
              clear f4
              generalize wd kd vl = X at *
              have HA := Lib.hid (show ∃ A : Int, q / 4 % 9 = A from ⟨_, rfl⟩)
              obtain ⟨A, hA⟩ := HA.out
              rw [hA]
              clear hA HA
              have C := storeD HK.out.d.m A X HST.out.1 (by have := HST.out; have := HJ.out; omega)
              have HC := Lib.hid C
              clear C
              go_wp2_with fail
              with_reducible refine HC.out.mono ?_
              clear HC
              rintro e w5 ⟨rfl, d5⟩
              obtain ⟨v5, K5⟩ := HK.out.did d5
              obtain ⟨au5, cu5, eu⟩ := ownShape K5.d.o
              subst eu
              have C := refStoreD (size := 18) (st := sd) K5.d.o K5.d.b.size (by have := HK.out.d.m.room; omega) A X HSD.out.1 (by have := HSD.out; have := HJ.out; omega)
              have HC := Lib.hid C
              have HK5 := Lib.hid K5
              have r0 := K5.r.c0
              have r1 := K5.r.c1
              have r2 := K5.r.c2
              clear C K5 d5 HK
              go_wp2_with fail
              with_reducible refine HC.out.mono ?_
              clear HC r0 r1 r2
              rintro e w6 ⟨u6', rfl, l6⟩
              obtain ⟨au6, cu6, eu⟩ := ownShape l6.1
              subst eu
              obtain ⟨m6, hm6⟩ : ∃ m, (sto zs A X).length = m := ⟨_, rfl⟩
              obtain ⟨z6, hz6⟩ : ∃ z, sto zs A X = z := ⟨_, rfl⟩
              rw [hm6] at l6 ⊢
              obtain ⟨s6, hs6⟩ : ∃ s, sd + cn zs A = s := ⟨_, rfl⟩
              have HS6 := Lib.hid (show 0 ≤ s6 ∧ s6 ≤ 2 + 2 * (j : Int) by have := HSD.out; have := cn_bd zs A; omega)
              obtain ⟨t6, ht6⟩ : ∃ s, st + cn zs A = s := ⟨_, rfl⟩
              have HT6 := Lib.hid (show 0 ≤ t6 ∧ t6 ≤ 2 + 2 * (j : Int) by have := HST.out; have := cn_bd zs A; omega)
              rw [hs6]
              rw [ht6] at HK5
              have D6 := Lib.hid (HK5.out.d.left l6)
              rw [hz6] at HK5 D6
              have HK6 := Lib.hid (HK5.out.fresh l6.2.2)
              clear l6 hm6 hz6 hs6 ht6 HK5
              go_upto_region 19 with (fail)
              generalize hW7 : w6.alloc (.cells #[.int .i64 18, .slice au6 m6 cu6, .int .i64 s6] 37) = w7
              have f7 : Below w6.heap.size w6 w7 := by subst hW7; exact (Below.refl _ _).alloc (Nat.le_refl _) _
              have n7 : Boxed w7 w6.heap.size (.int .i64 18) (.slice au6 m6 cu6) (.int .i64 s6) := by subst hW7; exact Boxed.new _ _ _ _
              have HK7 := Lib.hid (HK6.out.fresh f7)
              have D7 := D6.out.fresh f7
              have HK8 := Lib.hid (HK7.out.turn D7 s6)
              have hne : ¬ gr = w6.heap.size := by have := HK6.out.r.lt; omega
              have r0 := HK7.out.r.c0
              have r1 := HK7.out.r.c1
              have r2 := HK7.out.r.c2
              have rf := HK7.out.r.f
              have n0 := n7.c0
              have n1 := n7.c1
              have n2 := n7.c2
              clear hW7 f7 n7 D7 D6 HK6 HK7
              go_wp2
              go_meet
              exact ⟨v5, .slice au6 m6 cu6, z6, t6, s6, HK8.out, HT6.out, HS6.out⟩
            · have b5 : (r % 5 == 0) = false := by simpa using h5
              obtain ⟨X, hX⟩ : ∃ X, q % 16 / 4 - 1 = X := ⟨_, rfl⟩
              obtain ⟨w4, hw4⟩ : ∃ w4, w4 = wr := ⟨_, rfl⟩
              go_upto_region 17 with (fail)
              rw [← hw4] at HK ⊢
              clear hX hw4
              have HA := Lib.hid (show ∃ A : Int, q / 4 % 9 = A from ⟨_, rfl⟩)
              obtain ⟨A, hA⟩ := HA.out
              rw [hA]
              clear hA HA
              have C := storeD HK.out.d.m A X HST.out.1 (by have := HST.out; have := HJ.out; omega)
              have HC := Lib.hid C
              clear C
              go_wp2_with fail
              with_reducible refine HC.out.mono ?_
              clear HC
              rintro e w5 ⟨rfl, d5⟩
              obtain ⟨v5, K5⟩ := HK.out.did d5
              obtain ⟨au5, cu5, eu⟩ := ownShape K5.d.o
              subst eu
              have C := refStoreD (size := 18) (st := sd) K5.d.o K5.d.b.size (by have := HK.out.d.m.room; omega) A X HSD.out.1 (by have := HSD.out; have := HJ.out; omega)
              have HC := Lib.hid C
              have HK5 := Lib.hid K5
              have r0 := K5.r.c0
              have r1 := K5.r.c1
              have r2 := K5.r.c2
              clear C K5 d5 HK
              go_wp2_with fail
              with_reducible refine HC.out.mono ?_
              clear HC r0 r1 r2
              rintro e w6 ⟨u6', rfl, l6⟩
              obtain ⟨au6, cu6, eu⟩ := ownShape l6.1
              subst eu
              obtain ⟨m6, hm6⟩ : ∃ m, (sto zs A X).length = m := ⟨_, rfl⟩
              obtain ⟨z6, hz6⟩ : ∃ z, sto zs A X = z := ⟨_, rfl⟩
              rw [hm6] at l6 ⊢
              obtain ⟨s6, hs6⟩ : ∃ s, sd + cn zs A = s := ⟨_, rfl⟩
              have HS6 := Lib.hid (show 0 ≤ s6 ∧ s6 ≤ 2 + 2 * (j : Int) by have := HSD.out; have := cn_bd zs A; omega)
              obtain ⟨t6, ht6⟩ : ∃ s, st + cn zs A = s := ⟨_, rfl⟩
              have HT6 := Lib.hid (show 0 ≤ t6 ∧ t6 ≤ 2 + 2 * (j : Int) by have := HST.out; have := cn_bd zs A; omega)
              rw [hs6]
              rw [ht6] at HK5
              have D6 := Lib.hid (HK5.out.d.left l6)
              rw [hz6] at HK5 D6
              have HK6 := Lib.hid (HK5.out.fresh l6.2.2)
              clear l6 hm6 hz6 hs6 ht6 HK5
              go_upto_region 19 with (fail)
              generalize hW7 : w6.alloc (.cells #[.int .i64 18, .slice au6 m6 cu6, .int .i64 s6] 37) = w7
              have f7 : Below w6.heap.size w6 w7 := by subst hW7; exact (Below.refl _ _).alloc (Nat.le_refl _) _
              have n7 : Boxed w7 w6.heap.size (.int .i64 18) (.slice au6 m6 cu6) (.int .i64 s6) := by subst hW7; exact Boxed.new _ _ _ _
              have HK7 := Lib.hid (HK6.out.fresh f7)
              have D7 := D6.out.fresh f7
              have HK8 := Lib.hid (HK7.out.turn D7 s6)
              have hne : ¬ gr = w6.heap.size := by have := HK6.out.r.lt; omega
              have r0 := HK7.out.r.c0
              have r1 := HK7.out.r.c1
              have r2 := HK7.out.r.c2
              have rf := HK7.out.r.f
              have n0 := n7.c0
              have n1 := n7.c1
              have n2 := n7.c2
              clear hW7 f7 n7 D7 D6 HK6 HK7
              go_wp2
              go_meet
              exact ⟨v5, .slice au6 m6 cu6, z6, t6, s6, HK8.out, HT6.out, HS6.out⟩
          · have i2 : (nd : Int) ≤ j := by omega
            obtain ⟨X, hX⟩ : ∃ X, q % 16 / 4 - 1 = X := ⟨_, rfl⟩
            obtain ⟨w4, hw4⟩ : ∃ w4, w4 = wr := ⟨_, rfl⟩
            go_upto_region 17 with (fail)
            rw [← hw4] at HK ⊢
            clear hX hw4
            have HA := Lib.hid (show ∃ A : Int, q / 4 % 9 = A from ⟨_, rfl⟩)
            obtain ⟨A, hA⟩ := HA.out
            rw [hA]
            clear hA HA
            have C := storeD HK.out.d.m A X HST.out.1 (by have := HST.out; have := HJ.out; omega)
            have HC := Lib.hid C
            clear C
            go_wp2_with fail
            with_reducible refine HC.out.mono ?_
            clear HC
            rintro e w5 ⟨rfl, d5⟩
            obtain ⟨v5, K5⟩ := HK.out.did d5
            obtain ⟨au5, cu5, eu⟩ := ownShape K5.d.o
            subst eu
            have C := refStoreD (size := 18) (st := sd) K5.d.o K5.d.b.size (by have := HK.out.d.m.room; omega) A X HSD.out.1 (by have := HSD.out; have := HJ.out; omega)
            have HC := Lib.hid C
            have HK5 := Lib.hid K5
            have r0 := K5.r.c0
            have r1 := K5.r.c1
            have r2 := K5.r.c2
            clear C K5 d5 HK
            go_wp2_with fail
            with_reducible refine HC.out.mono ?_
            clear HC r0 r1 r2
            rintro e w6 ⟨u6', rfl, l6⟩
            obtain ⟨au6, cu6, eu⟩ := ownShape l6.1
            subst eu
            obtain ⟨m6, hm6⟩ : ∃ m, (sto zs A X).length = m := ⟨_, rfl⟩
            obtain ⟨z6, hz6⟩ : ∃ z, sto zs A X = z := ⟨_, rfl⟩
            rw [hm6] at l6 ⊢
            obtain ⟨s6, hs6⟩ : ∃ s, sd + cn zs A = s := ⟨_, rfl⟩
            have HS6 := Lib.hid (show 0 ≤ s6 ∧ s6 ≤ 2 + 2 * (j : Int) by have := HSD.out; have := cn_bd zs A; omega)
            obtain ⟨t6, ht6⟩ : ∃ s, st + cn zs A = s := ⟨_, rfl⟩
            have HT6 := Lib.hid (show 0 ≤ t6 ∧ t6 ≤ 2 + 2 * (j : Int) by have := HST.out; have := cn_bd zs A; omega)
            rw [hs6]
            rw [ht6] at HK5
            have D6 := Lib.hid (HK5.out.d.left l6)
            rw [hz6] at HK5 D6
            have HK6 := Lib.hid (HK5.out.fresh l6.2.2)
            clear l6 hm6 hz6 hs6 ht6 HK5
            go_upto_region 19 with (fail)
            generalize hW7 : w6.alloc (.cells #[.int .i64 18, .slice au6 m6 cu6, .int .i64 s6] 37) = w7
            have f7 : Below w6.heap.size w6 w7 := by subst hW7; exact (Below.refl _ _).alloc (Nat.le_refl _) _
            have n7 : Boxed w7 w6.heap.size (.int .i64 18) (.slice au6 m6 cu6) (.int .i64 s6) := by subst hW7; exact Boxed.new _ _ _ _
            have HK7 := Lib.hid (HK6.out.fresh f7)
            have D7 := D6.out.fresh f7
            have HK8 := Lib.hid (HK7.out.turn D7 s6)
            have hne : ¬ gr = w6.heap.size := by have := HK6.out.r.lt; omega
            have r0 := HK7.out.r.c0
            have r1 := HK7.out.r.c1
            have r2 := HK7.out.r.c2
            have rf := HK7.out.r.f
            have n0 := n7.c0
            have n1 := n7.c1
            have n2 := n7.c2
            clear hW7 f7 n7 D7 D6 HK6 HK7
            go_wp2
            go_meet
            exact ⟨v5, .slice au6 m6 cu6, z6, t6, s6, HK8.out, HT6.out, HS6.out⟩
        · have b4 : (q % 4 == 0) = false := by simpa using h4
          go_wp2
          go_meet
          exact ⟨v, u, zs, st, sd, HK.out, by have := HST.out; omega, by have := HSD.out; omega⟩
      case' rest => skip
      have hcut : CutRel w p w.heap.size gr gt gu kd vl j T wc := hcut
      clear HK HST HSD HDH
      obtain ⟨v, u, zs, st, sd, hK, hst, hsd⟩ := hcut
      obtain ⟨au2, cu2, eu⟩ := ownShape hK.d.o
      subst eu
      obtain ⟨S, hS⟩ : ∃ S, stp 18 T zs = S := ⟨_, rfl⟩
      have HS := Lib.hid hS
      have HZL := Lib.hid (show zs.length ≤ 18 by have := hK.d.m.room; omega)
      have HSC := Lib.hid (show 0 ≤ S.c ∧ S.c ≤ 1 by rw [← hS]; exact stp_c _ _ _)
      have HSRC := Lib.hid (show 0 ≤ S.t.rc ∧ S.t.rc ≤ 1000 by rw [← hS]; exact stp_rc _ HRC.out (by have := HZL.out; omega))
      have C := stepM hK.d.m T (ad_rc HRC.out) hst.1 (by have := HJ.out; omega)
      rw [hS, show thN T = .agg #[.int .i64 T.ti, .int .i64 T.pc, .int .i64 T.rc, .int .i64 T.sq, .int .i64 T.wo, .int .i64 T.lk, .int .i64 T.cu, .int .i64 T.pv, .int .i64 T.nt, .int .i64 T.mx, .int .i64 T.ps, .int .i64 T.rn, .slice none 0 0] from rfl, show thN S.t = .agg #[.int .i64 S.t.ti, .int .i64 S.t.pc, .int .i64 S.t.rc, .int .i64 S.t.sq, .int .i64 S.t.wo, .int .i64 S.t.lk, .int .i64 S.t.cu, .int .i64 S.t.pv, .int .i64 S.t.nt, .int .i64 S.t.mx, .int .i64 S.t.ps, .int .i64 S.t.rn, .slice none 0 0] from rfl] at C
      have HCC := Lib.hid C
      have HST := Lib.hid hst
      have HSD := Lib.hid hsd
      have HK := Lib.hid hK
      have x := hK.t
      have c0 := x.c0
      have c1 := x.c1
      have c2 := x.c2
      have c3 := x.c3
      have c4 := x.c4
      have c5 := x.c5
      have c6 := x.c6
      have c7 := x.c7
      have c8 := x.c8
      have c9 := x.c9
      have c10 := x.c10
      have c11 := x.c11
      have c12 := x.c12
      clear C hS hst hsd hK x
      obtain ⟨m2, hm2⟩ : ∃ m, zs.length = m := ⟨_, rfl⟩
      rw [hm2] at HK HZL
      have HM2 := Lib.hid hm2
      clear hm2
      go_wp2_with fail
      with_reducible refine HCC.out.mono ?_
      clear HCC c0 c1 c2 c3 c4 c5 c6 c7 c8 c9 c10 c11 c12
      rintro e w5 ⟨rfl, d5⟩
      obtain ⟨v5, K5⟩ := HK.out.did d5
      clear d5 HK
      go_upto_region 21 with (fail)
      generalize hW6 : (w5.alloc (.cells #[.int .i64 S.t.ti, .int .i64 S.t.pc, .int .i64 S.t.rc, .int .i64 S.t.sq, .int .i64 S.t.wo, .int .i64 S.t.lk, .int .i64 S.t.cu, .int .i64 S.t.pv, .int .i64 S.t.nt, .int .i64 S.t.mx, .int .i64 S.t.ps, .int .i64 S.t.rn, .slice none 0 0] 25)).alloc (.cells #[.int .u8 S.k, .int .i32 S.v] 49) = w6
      have f6 : Below w5.heap.size w5 w6 := by subst hW6; exact ((Below.refl _ _).alloc (Nat.le_refl _) _).alloc (by simp) _
      have HX := Lib.hid (show TX w6 w5.heap.size S.t (.slice none 0 0) by subst hW6; exact (TX.new w5 S.t _).alloc _)
      have HA := Lib.hid (show RB w6 (w5.heap.size + 1) S.k S.v by
        subst hW6
        have := RB.new (w5.alloc (.cells #[.int .i64 S.t.ti, .int .i64 S.t.pc, .int .i64 S.t.rc, .int .i64 S.t.sq, .int .i64 S.t.wo, .int .i64 S.t.lk, .int .i64 S.t.cu, .int .i64 S.t.pv, .int .i64 S.t.nt, .int .i64 S.t.mx, .int .i64 S.t.ps, .int .i64 S.t.rn, .slice none 0 0] 25)) S.k S.v
        simpa using this)
      have HK := Lib.hid (K5.fresh f6)
      have HNX := Lib.hid (show gt ≠ w5.heap.size ∧ gu ≠ w5.heap.size by have := K5.t.lt; have := K5.y.lt; omega)
      clear hW6 f6 K5
      generalize w5.heap.size + 1 = ga at *
      generalize w5.heap.size = gx at *
      have C := refStep (size := 18) (st := sd) HK.out.d.o HK.out.d.b.size ⟨by omega, by omega, by have := HK.out.d.m.s1; have := HZL.out; have := HM2.out; omega⟩ T none 0 0 HSD.out.1 (by have := HSD.out; have := HJ.out; omega)
      rw [show thV T (.slice none 0 0) = .agg #[.int .i64 T.ti, .int .i64 T.pc, .int .i64 T.rc, .int .i64 T.sq, .int .i64 T.wo, .int .i64 T.lk, .int .i64 T.cu, .int .i64 T.pv, .int .i64 T.nt, .int .i64 T.mx, .int .i64 T.ps, .int .i64 T.rn, .slice none 0 0] from rfl] at C
      have HCC := Lib.hid C
      have r0 := HK.out.r.c0
      have r1 := HK.out.r.c1
      have r2 := HK.out.r.c2
      have x := HK.out.y
      have c0 := x.c0
      have c1 := x.c1
      have c2 := x.c2
      have c3 := x.c3
      have c4 := x.c4
      have c5 := x.c5
      have c6 := x.c6
      have c7 := x.c7
      have c8 := x.c8
      have c9 := x.c9
      have c10 := x.c10
      have c11 := x.c11
      have c12 := x.c12
      clear C x
      go_wp2_with fail
      with_reducible refine HCC.out.mono ?_
      clear HCC r0 r1 r2 c0 c1 c2 c3 c4 c5 c6 c7 c8 c9 c10 c11 c12
      rintro e w7 ⟨u7, rfl, l7⟩
      rw [HS.out, show thV S.t (.slice none 0 0) = .agg #[.int .i64 S.t.ti, .int .i64 S.t.pc, .int .i64 S.t.rc, .int .i64 S.t.sq, .int .i64 S.t.wo, .int .i64 S.t.lk, .int .i64 S.t.cu, .int .i64 S.t.pv, .int .i64 S.t.nt, .int .i64 S.t.mx, .int .i64 S.t.ps, .int .i64 S.t.rn, .slice none 0 0] from rfl]
      rw [HS.out] at l7
      obtain ⟨a7, c7, eu⟩ := ownShape l7.1
      subst eu
      obtain ⟨m7, hm7⟩ : ∃ m, S.zs.length = m := ⟨_, rfl⟩
      obtain ⟨s7, hs7⟩ : ∃ s, sd + S.c = s := ⟨_, rfl⟩
      obtain ⟨t7, ht7⟩ : ∃ s, st + S.c = s := ⟨_, rfl⟩
      have HS7 := Lib.hid (show 0 ≤ s7 ∧ s7 ≤ 1 + 2 * ((j + 1 : Nat) : Int) by have := HSD.out; have := HSC.out; omega)
      have HT7 := Lib.hid (show 0 ≤ t7 ∧ t7 ≤ 1 + 2 * ((j + 1 : Nat) : Int) by have := HST.out; have := HSC.out; omega)
      rw [hm7] at l7 ⊢
      rw [hs7]
      rw [ht7] at HK
      have HE7 := Lib.hid hm7
      have D7 := HK.out.d.left l7
      have b7 := l7.2.2
      clear l7 hm7 hs7 ht7
      go_upto_region 22 with (fail)
      generalize hW8 : ((w7.alloc (.cells #[.int .i64 18, .slice a7 m7 c7, .int .i64 s7] 37)).alloc (.cells #[.int .i64 S.t.ti, .int .i64 S.t.pc, .int .i64 S.t.rc, .int .i64 S.t.sq, .int .i64 S.t.wo, .int .i64 S.t.lk, .int .i64 S.t.cu, .int .i64 S.t.pv, .int .i64 S.t.nt, .int .i64 S.t.mx, .int .i64 S.t.ps, .int .i64 S.t.rn, .slice none 0 0] 25)).alloc (.cells #[.int .u8 S.k, .int .i32 S.v] 49) = w8
      have f8 : Below w7.heap.size w7 w8 := by subst hW8; exact (((Below.refl _ _).alloc (Nat.le_refl _) _).alloc (by simp) _).alloc (by simp; omega) _
      have HN := Lib.hid (show Boxed w8 w7.heap.size (.int .i64 18) (.slice a7 m7 c7) (.int .i64 s7) by subst hW8; exact ((Boxed.new _ _ _ _).alloc _).alloc _)
      have HY := Lib.hid (show TX w8 (w7.heap.size + 1) S.t (.slice none 0 0) by
        subst hW8
        have := (TX.new (w7.alloc (.cells #[.int .i64 18, .slice a7 m7 c7, .int .i64 s7] 37)) S.t (.slice none 0 0)).alloc (.cells #[.int .u8 S.k, .int .i32 S.v] 49)
        simpa using this)
      have HBB := Lib.hid (show RB w8 (w7.heap.size + 1 + 1) S.k S.v by
        subst hW8
        have := RB.new ((w7.alloc (.cells #[.int .i64 18, .slice a7 m7 c7, .int .i64 s7] 37)).alloc (.cells #[.int .i64 S.t.ti, .int .i64 S.t.pc, .int .i64 S.t.rc, .int .i64 S.t.sq, .int .i64 S.t.wo, .int .i64 S.t.lk, .int .i64 S.t.cu, .int .i64 S.t.pv, .int .i64 S.t.nt, .int .i64 S.t.mx, .int .i64 S.t.ps, .int .i64 S.t.rn, .slice none 0 0] 25)) S.k S.v
        simpa using this)
      have f8' := b7.trans (f8.mono b7.size)
      have HNY := Lib.hid (show gt ≠ w7.heap.size + 1 ∧ gu ≠ w7.heap.size + 1 ∧ gr ≠ w7.heap.size by have := HK.out.t.lt; have := HK.out.y.lt; have := HK.out.r.lt; have := b7.size; omega)
      have HD := Lib.hid (D7.fresh f8)
      have HK := Lib.hid (HK.out.fresh f8')
      have HX := Lib.hid (HX.out.keep f8')
      have HA := Lib.hid (HA.out.keep f8')
      clear hW8 f8 f8' b7 D7
      generalize w7.heap.size + 1 + 1 = gb at *
      generalize w7.heap.size + 1 = gy at *
      generalize w7.heap.size = gn at *
      have x := HX.out
      have y := HK.out.t
      have yf := y.f
      have c0 := x.c0
      have c1 := x.c1
      have c2 := x.c2
      have c3 := x.c3
      have c4 := x.c4
      have c5 := x.c5
      have c6 := x.c6
      have c7 := x.c7
      have c8 := x.c8
      have c9 := x.c9
      have c10 := x.c10
      have c11 := x.c11
      have c12 := x.c12
      have r0 := y.c0
      have r1 := y.c1
      have r2 := y.c2
      have r3 := y.c3
      have r4 := y.c4
      have r5 := y.c5
      have r6 := y.c6
      have r7 := y.c7
      have r8 := y.c8
      have r9 := y.c9
      have r10 := y.c10
      have r11 := y.c11
      have r12 := y.c12
      clear x y
      go_upto_region 23 with (fail)
      change Code.wp _ _ _ _ (setT w8 gt S.t (.slice none 0 0))
      clear c0 c1 c2 c3 c4 c5 c6 c7 c8 c9 c10 c11 c12 r0 r1 r2 r3 r4 r5 r6 r7 r8 r9 r10 r11 r12 yf
      have HD := Lib.hid (HD.out.other HK.out.t (by decide) (by decide) (fun k hk => setT_other w8 hk S.t (.slice none 0 0)) (setT_below HK.out.d.b HK.out.lo.2.1 S.t (.slice none 0 0)))
      have HN := Lib.hid (show Boxed (setT w8 gt S.t (.slice none 0 0)) gn _ _ _ from (setT_other w8 (RN.ne HN.out HK.out.t (by decide)) _ _).trans HN.out)
      have HY := Lib.hid (show TX (setT w8 gt S.t (.slice none 0 0)) gy _ _ from (setT_other w8 HNY.out.1.symm _ _).trans HY.out)
      have HA := Lib.hid (show RB (setT w8 gt S.t (.slice none 0 0)) ga _ _ from (setT_other w8 (RN.ne HA.out HK.out.t (by decide)) _ _).trans HA.out)
      have HBB := Lib.hid (show RB (setT w8 gt S.t (.slice none 0 0)) gb _ _ from (setT_other w8 (RN.ne HBB.out HK.out.t (by decide)) _ _).trans HBB.out)
      have HK := Lib.hid (HK.out.putT S.t (.slice none 0 0))
      clear HX HNX
      generalize setT w8 gt S.t (.slice none 0 0) = w9 at *
      have x := HY.out
      have y := HK.out.y
      have yf := y.f
      have c0 := x.c0
      have c1 := x.c1
      have c2 := x.c2
      have c3 := x.c3
      have c4 := x.c4
      have c5 := x.c5
      have c6 := x.c6
      have c7 := x.c7
      have c8 := x.c8
      have c9 := x.c9
      have c10 := x.c10
      have c11 := x.c11
      have c12 := x.c12
      have r0 := y.c0
      have r1 := y.c1
      have r2 := y.c2
      have r3 := y.c3
      have r4 := y.c4
      have r5 := y.c5
      have r6 := y.c6
      have r7 := y.c7
      have r8 := y.c8
      have r9 := y.c9
      have r10 := y.c10
      have r11 := y.c11
      have r12 := y.c12
      clear x y
      go_upto_region 24 with (fail)
      change Code.wp _ _ _ _ (setT w9 gu S.t (.slice none 0 0))
      clear c0 c1 c2 c3 c4 c5 c6 c7 c8 c9 c10 c11 c12 r0 r1 r2 r3 r4 r5 r6 r7 r8 r9 r10 r11 r12 yf
      have HD := Lib.hid (HD.out.other HK.out.y (by decide) (by decide) (fun k hk => setT_other w9 hk S.t (.slice none 0 0)) (setT_below HK.out.d.b HK.out.lo.2.2 S.t (.slice none 0 0)))
      have HN := Lib.hid (show Boxed (setT w9 gu S.t (.slice none 0 0)) gn _ _ _ from (setT_other w9 (RN.ne HN.out HK.out.y (by decide)) _ _).trans HN.out)
      have HA := Lib.hid (show RB (setT w9 gu S.t (.slice none 0 0)) ga _ _ from (setT_other w9 (RN.ne HA.out HK.out.y (by decide)) _ _).trans HA.out)
      have HBB := Lib.hid (show RB (setT w9 gu S.t (.slice none 0 0)) gb _ _ from (setT_other w9 (RN.ne HBB.out HK.out.y (by decide)) _ _).trans HBB.out)
      have HK := Lib.hid (HK.out.putU S.t (.slice none 0 0))
      clear HY
      generalize setT w9 gu S.t (.slice none 0 0) = w10 at *
      have n0 := HN.out.c0
      have n1 := HN.out.c1
      have n2 := HN.out.c2
      have r0 := HK.out.r.c0
      have r1 := HK.out.r.c1
      have r2 := HK.out.r.c2
      have rf := HK.out.r.f
      go_upto_region 25 with (fail)
      change Code.wp _ _ _ _ (setM w10 gr (.int .i64 18) (.slice a7 m7 c7) (.int .i64 s7))
      clear n0 n1 n2 r0 r1 r2 rf
      have HA := Lib.hid (show RB (setM w10 gr (.int .i64 18) (.slice a7 m7 c7) (.int .i64 s7)) ga _ _ from (setM_other w10 (RN.ne HA.out HK.out.r (by decide)) _ _ _).trans HA.out)
      have HBB := Lib.hid (show RB (setM w10 gr (.int .i64 18) (.slice a7 m7 c7) (.int .i64 s7)) gb _ _ from (setM_other w10 (RN.ne HBB.out HK.out.r (by decide)) _ _ _).trans HBB.out)
      have HK := Lib.hid (HK.out.turn HD.out s7)
      clear HN HD HNY
      generalize setM w10 gr (.int .i64 18) (.slice a7 m7 c7) (.int .i64 s7) = w11 at *
      have HRE := Lib.hid (show RE w p w.heap.size gr gt gu ga gb kd vl v5 a7 m7 c7 S.zs t7 s7 S.t S.k S.v w11 from ⟨HK.out, HE7.out, HA.out, HBB.out⟩)
      have HDR := Lib.hid (HRE.out.fresh (Below.refl _ _).drew)
      have HC1 := Lib.hid (fun (V : World) (h : RE w p w.heap.size gr gt gu ga gb kd vl v5 a7 m7 c7 S.zs t7 s7 S.t S.k S.v V) => h.sameE)
      have HC2 := Lib.hid (fun (V : World) (h : RE w p w.heap.size gr gt gu ga gb kd vl v5 a7 m7 c7 S.zs t7 s7 S.t S.k S.v V) => h.cellsE)
      have HC3 := Lib.hid (fun (V : World) (g : Option Addr) (h : RE w p w.heap.size gr gt gu ga gb kd vl v5 a7 m7 c7 S.zs t7 s7 S.t S.k S.v V) (r : Reads .i64 V g m7 S.zs) => h.sameC r)
      have i0 := HRE.out.cells
      have i1' := HDR.out.cells
      have heq := neqRes S.k S.v
      have C1 := Lib.hid (HC1.out _ HDR.out)
      clear HA HBB HK
      go_wp2
      go_region_held3 (fun w' => w'.cell? ⟨gt, 0, none⟩ = some (.int .i64 S.t.ti) ∧ w'.cell? ⟨gt, 1, none⟩ = some (.int .i64 S.t.pc) ∧ w'.cell? ⟨gt, 2, none⟩ = some (.int .i64 S.t.rc) ∧ w'.cell? ⟨gt, 3, none⟩ = some (.int .i64 S.t.sq) ∧ w'.cell? ⟨gt, 4, none⟩ = some (.int .i64 S.t.wo) ∧ w'.cell? ⟨gt, 5, none⟩ = some (.int .i64 S.t.lk) ∧ w'.cell? ⟨gt, 6, none⟩ = some (.int .i64 S.t.cu) ∧ w'.cell? ⟨gt, 7, none⟩ = some (.int .i64 S.t.pv) ∧ w'.cell? ⟨gt, 8, none⟩ = some (.int .i64 S.t.nt) ∧ w'.cell? ⟨gt, 9, none⟩ = some (.int .i64 S.t.mx) ∧ w'.cell? ⟨gt, 10, none⟩ = some (.int .i64 S.t.ps) ∧ w'.cell? ⟨gt, 11, none⟩ = some (.int .i64 S.t.rn) ∧ w'.cell? ⟨gt, 12, none⟩ = some (.slice none 0 0) ∧ w'.cell? ⟨gu, 0, none⟩ = some (.int .i64 S.t.ti) ∧ w'.cell? ⟨gu, 1, none⟩ = some (.int .i64 S.t.pc) ∧ w'.cell? ⟨gu, 2, none⟩ = some (.int .i64 S.t.rc) ∧ w'.cell? ⟨gu, 3, none⟩ = some (.int .i64 S.t.sq) ∧ w'.cell? ⟨gu, 4, none⟩ = some (.int .i64 S.t.wo) ∧ w'.cell? ⟨gu, 5, none⟩ = some (.int .i64 S.t.lk) ∧ w'.cell? ⟨gu, 6, none⟩ = some (.int .i64 S.t.cu) ∧ w'.cell? ⟨gu, 7, none⟩ = some (.int .i64 S.t.pv) ∧ w'.cell? ⟨gu, 8, none⟩ = some (.int .i64 S.t.nt) ∧ w'.cell? ⟨gu, 9, none⟩ = some (.int .i64 S.t.mx) ∧ w'.cell? ⟨gu, 10, none⟩ = some (.int .i64 S.t.ps) ∧ w'.cell? ⟨gu, 11, none⟩ = some (.int .i64 S.t.rn) ∧ w'.cell? ⟨gu, 12, none⟩ = some (.slice none 0 0) ∧ w'.cell? ⟨ga, 0, none⟩ = some (.int .u8 S.k) ∧ w'.cell? ⟨ga, 1, none⟩ = some (.int .i32 S.v) ∧ w'.cell? ⟨gb, 0, none⟩ = some (.int .u8 S.k) ∧ w'.cell? ⟨gb, 1, none⟩ = some (.int .i32 S.v) ∧ w'.cell? ⟨gr, 1, none⟩ = some (.slice a7 m7 c7)) (first | with_reducible exact i0 | with_reducible exact i1' | with_reducible exact i2 | with_reducible exact i3 | with_reducible exact i4) (first
        | ((with_reducible refine C3.out.mono ?_); rintro e V3 ⟨rfl, s3⟩; have HF := Lib.hid s3; have i4 := HF.out.cells; clear s3)
        | ((with_reducible refine C2.out.mono ?_); rintro e V2 ⟨rfl, r2, s2⟩; have i3 := s2.cells; have C3 := Lib.hid (HC3.out _ _ s2 r2); clear s2 r2)
        | ((with_reducible refine C1.out.mono ?_); rintro e V1 ⟨rfl, s1⟩; have i2 := s1.cells; have C2 := Lib.hid (HC2.out _ s1); clear s1))
      clear i0 i1' i2 i3 i4 C1 C2 C3 HC1 HC2 HC3 heq HRE HDR
      by_cases hp0 : S.t.pc = 0
      · have q0 := HF.out.k.t.c1
        have bp : (S.t.pc == 0) = true := by simp [hp0]
        obtain ⟨G, hG⟩ : ∃ G, bgT S.t (wd kd vl) = G := ⟨_, rfl⟩
        have HGRC := Lib.hid (show 0 ≤ G.rc ∧ G.rc ≤ 1000 by rw [← hG, bgT_yes _ hp0]; exact HSRC.out)
        have HCA := Lib.hid (show ∀ V, Calls Try.prog 16 #[.agg #[.int .i64 S.t.ti, .int .i64 S.t.pc, .int .i64 S.t.rc, .int .i64 S.t.sq, .int .i64 S.t.wo, .int .i64 S.t.lk, .int .i64 S.t.cu, .int .i64 S.t.pv, .int .i64 S.t.nt, .int .i64 S.t.mx, .int .i64 S.t.ps, .int .i64 S.t.rn, .slice none 0 0], .agg #[.int .u8 kd, .int .i32 vl]] V fun e w' => e = .returned (.tuple #[.agg #[.int .i64 G.ti, .int .i64 G.pc, .int .i64 G.rc, .int .i64 G.sq, .int .i64 G.wo, .int .i64 G.lk, .int .i64 G.cu, .int .i64 G.pv, .int .i64 G.nt, .int .i64 G.mx, .int .i64 G.ps, .int .i64 G.rn, .slice none 0 0], .bool true]) ∧ Below V.heap.size V w' from fun V => by
          have C := beginN V S.t kd vl HO.out
          rw [hG, bp] at C
          exact C)
        have HCB := Lib.hid (show ∀ V, Calls Try.prog 17 #[.agg #[.int .i64 S.t.ti, .int .i64 S.t.pc, .int .i64 S.t.rc, .int .i64 S.t.sq, .int .i64 S.t.wo, .int .i64 S.t.lk, .int .i64 S.t.cu, .int .i64 S.t.pv, .int .i64 S.t.nt, .int .i64 S.t.mx, .int .i64 S.t.ps, .int .i64 S.t.rn, .slice none 0 0], .agg #[.int .u8 kd, .int .i32 vl]] V fun e w' => e = .returned (.tuple #[.agg #[.int .i64 G.ti, .int .i64 G.pc, .int .i64 G.rc, .int .i64 G.sq, .int .i64 G.wo, .int .i64 G.lk, .int .i64 G.cu, .int .i64 G.pv, .int .i64 G.nt, .int .i64 G.mx, .int .i64 G.ps, .int .i64 G.rn, .slice none 0 0], .bool true]) ∧ Below V.heap.size V w' from fun V => by
          have C := refBegin V S.t none 0 0 kd vl HO.out
          unfold RBPost at C
          rw [hG, bp] at C
          exact C)
        clear hG hp0
        go_upto_region 28 with (fail)
        clear q0 bp
        have HK := Lib.hid HF.out.k
        have x := HK.out.t
        have c0 := x.c0
        have c1 := x.c1
        have c2 := x.c2
        have c3 := x.c3
        have c4 := x.c4
        have c5 := x.c5
        have c6 := x.c6
        have c7 := x.c7
        have c8 := x.c8
        have c9 := x.c9
        have c10 := x.c10
        have c11 := x.c11
        have c12 := x.c12
        have o0 := HK.out.o.c0
        have o1 := HK.out.o.c1
        clear x HF
        go_wp2_with fail
        with_reducible refine (HCA.out _).mono ?_
        clear HCA o0 o1 c0 c1 c2 c3 c4 c5 c6 c7 c8 c9 c10 c11 c12
        rintro e w12 ⟨rfl, b12⟩
        go_upto_region 29 with (fail)
        generalize hW13 : w12.alloc (.cells #[.int .i64 G.ti, .int .i64 G.pc, .int .i64 G.rc, .int .i64 G.sq, .int .i64 G.wo, .int .i64 G.lk, .int .i64 G.cu, .int .i64 G.pv, .int .i64 G.nt, .int .i64 G.mx, .int .i64 G.ps, .int .i64 G.rn, .slice none 0 0] 25) = w13
        have f13 : Below w12.heap.size w12 w13 := by subst hW13; exact (Below.refl _ _).alloc (Nat.le_refl _) _
        have HX := Lib.hid (show TX w13 w12.heap.size G (.slice none 0 0) by subst hW13; exact TX.new w12 G _)
        have hnx : ¬ gt = w12.heap.size := by have := HK.out.t.lt; have := b12.size; omega
        have HK := Lib.hid (HK.out.fresh (b12.trans (f13.mono b12.size)))
        clear hW13 f13 b12
        generalize w12.heap.size = gx2 at *
        have x := HX.out
        have y := HK.out.t
        have yf := y.f
        have c0 := x.c0
        have c1 := x.c1
        have c2 := x.c2
        have c3 := x.c3
        have c4 := x.c4
        have c5 := x.c5
        have c6 := x.c6
        have c7 := x.c7
        have c8 := x.c8
        have c9 := x.c9
        have c10 := x.c10
        have c11 := x.c11
        have c12 := x.c12
        have r0 := y.c0
        have r1 := y.c1
        have r2 := y.c2
        have r3 := y.c3
        have r4 := y.c4
        have r5 := y.c5
        have r6 := y.c6
        have r7 := y.c7
        have r8 := y.c8
        have r9 := y.c9
        have r10 := y.c10
        have r11 := y.c11
        have r12 := y.c12
        clear x y
        go_upto_region 30 with (fail)
        change Code.wp _ _ _ _ (setT w13 gt G (.slice none 0 0))
        clear c0 c1 c2 c3 c4 c5 c6 c7 c8 c9 c10 c11 c12 r0 r1 r2 r3 r4 r5 r6 r7 r8 r9 r10 r11 r12 yf hnx HX
        have HK := Lib.hid (HK.out.putT G (.slice none 0 0))
        generalize setT w13 gt G (.slice none 0 0) = w14 at *
        have x := HK.out.y
        have c0 := x.c0
        have c1 := x.c1
        have c2 := x.c2
        have c3 := x.c3
        have c4 := x.c4
        have c5 := x.c5
        have c6 := x.c6
        have c7 := x.c7
        have c8 := x.c8
        have c9 := x.c9
        have c10 := x.c10
        have c11 := x.c11
        have c12 := x.c12
        have o0 := HK.out.o.c0
        have o1 := HK.out.o.c1
        clear x
        go_wp2_with fail
        with_reducible refine (HCB.out _).mono ?_
        clear HCB o0 o1 c0 c1 c2 c3 c4 c5 c6 c7 c8 c9 c10 c11 c12
        rintro e w15 ⟨rfl, b15⟩
        go_upto_region 31 with (fail)
        generalize hW16 : w15.alloc (.cells #[.int .i64 G.ti, .int .i64 G.pc, .int .i64 G.rc, .int .i64 G.sq, .int .i64 G.wo, .int .i64 G.lk, .int .i64 G.cu, .int .i64 G.pv, .int .i64 G.nt, .int .i64 G.mx, .int .i64 G.ps, .int .i64 G.rn, .slice none 0 0] 25) = w16
        have f16 : Below w15.heap.size w15 w16 := by subst hW16; exact (Below.refl _ _).alloc (Nat.le_refl _) _
        have HX := Lib.hid (show TX w16 w15.heap.size G (.slice none 0 0) by subst hW16; exact TX.new w15 G _)
        have hnx : ¬ gu = w15.heap.size := by have := HK.out.y.lt; have := b15.size; omega
        have HK := Lib.hid (HK.out.fresh (b15.trans (f16.mono b15.size)))
        clear hW16 f16 b15
        generalize w15.heap.size = gx3 at *
        have x := HX.out
        have y := HK.out.y
        have yf := y.f
        have c0 := x.c0
        have c1 := x.c1
        have c2 := x.c2
        have c3 := x.c3
        have c4 := x.c4
        have c5 := x.c5
        have c6 := x.c6
        have c7 := x.c7
        have c8 := x.c8
        have c9 := x.c9
        have c10 := x.c10
        have c11 := x.c11
        have c12 := x.c12
        have r0 := y.c0
        have r1 := y.c1
        have r2 := y.c2
        have r3 := y.c3
        have r4 := y.c4
        have r5 := y.c5
        have r6 := y.c6
        have r7 := y.c7
        have r8 := y.c8
        have r9 := y.c9
        have r10 := y.c10
        have r11 := y.c11
        have r12 := y.c12
        have HNEXT := Lib.hid (HK.out.putU G (.slice none 0 0))
        clear x y HK HX
        go_wp2
        go_roundw
        case rel => exact ⟨j + 1, v5, .slice a7 m7 _, S.zs, t7, s7, G, by have := HJ.out; omega, by go_num, HNEXT.out, HGRC.out, HT7.out, HS7.out⟩
        case measure => have := HJ.out; simp [intOf]; omega
      · have q0 := HF.out.k.t.c1
        have bp : (S.t.pc == 0) = false := by simpa using hp0
        go_wp2
        go_roundw
        case rel => exact ⟨j + 1, v5, .slice a7 m7 c7, S.zs, t7, s7, S.t, by have := HJ.out; omega, by go_num, HF.out.k, HSRC.out, HT7.out, HS7.out⟩
        case measure => have := HJ.out; simp [intOf]; omega
    · have i1 : (nc : Int) ≤ j := by omega
      have HB := Lib.hid hK.d.b
      clear hK hrc hst hsd hj hlt
      go_wp2
      go_ret
      exact ⟨rfl, HB.out⟩

end Go.Proofs.Ythefdglocnalhaa.M2
