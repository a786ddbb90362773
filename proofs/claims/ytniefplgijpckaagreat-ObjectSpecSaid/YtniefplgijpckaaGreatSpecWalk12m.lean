/-
  The function ObjectSpec returns true: batch by batch what is told is what the chapter of definitions has by its order. Conditions: a list of bytes as it came in.
-/
import Derived.Test.YtniefplgijpckaaGreatDeB12
import Derived.Test.YtniefplgijpckaaGreatRefBat12m
namespace Go.Proofs.YtniefplgijpckaaGreat
open Go.RowKit Go.Lib

/-- In the midst of it: the object, the deeds, the document's list. -/
def SpcAt (w : World) (o : Nat) (k m : Int) (pl : Bool) (ao : Option Addr) (N : Nat) (ds : List Deed12) (sv : Value) (wr : World) : Prop :=
  ∃ F s a c, sv = .slice a (vals s.1).length c ∧ OAt w F o k m pl s wr ∧ Reads .i32 wr a (vals s.1).length (vals s.1) ∧ (vals s.1).length ≤ c ∧ (∀ y, a = some y → ¬ F y.block ∧ y.block < wr.heap.size) ∧ DeedsIn F wr ao N ds

set_option maxRecDepth 100000 in
set_option maxHeartbeats 32000000 in
theorem specWalk {w : World} (kd mv : Int) (al : Option Addr) (nl cl : Nat) (xs : List Int) (pl : Bool) (k0 : 0 ≤ kd) (k1 : kd ≤ 255) (m0 : 0 ≤ mv) (m1 : mv ≤ 255) (hx : ArgBytes w al nl cl xs) (hnl : nl ≤ 140737488351232) :
    Calls Tryz.prog 5 #[.int .u8 kd, .int .u8 mv, .slice al nl cl, .bool pl] w fun e w' => e = .returned (.bool true) ∧ Below w.heap.size w w' := by
  have HX := Lib.hid hx
  clear hx
  obtain ⟨r, hr⟩ : ∃ r, kd % 3 = r := ⟨_, rfl⟩
  obtain ⟨m, hm⟩ : ∃ m, mv % 12 = m := ⟨_, rfl⟩
  have hr0 : 0 ≤ r ∧ r ≤ 2 := by omega
  have hm0 : 0 ≤ m ∧ m ≤ 11 := by omega
  have HRM := Lib.hid (show kd.tmod 3 = r by rw [Int.tmod_eq_emod_of_nonneg k0]; exact hr)
  have HMM := Lib.hid (show mv.tmod 12 = m by rw [Int.tmod_eq_emod_of_nonneg m0]; exact hm)
  have HW2 := Lib.hid (show IntKind.u8.wrap r = r by rw [IntKind.wrap_u8]; omega)
  have HRW := Lib.hid (show (1 + r) % 256 = 1 + r by omega)
  have HMW := Lib.hid (show IntKind.u8.wrap m = m by rw [IntKind.wrap_u8]; omega)
  have HMI := Lib.hid (show IntKind.i64.wrap m = m by rw [IntKind.wrap_i64]; omega)
  have HMO := Lib.hid (mostOf_self m (by omega) (by omega))
  have HKD := Lib.hid (show 1 + r = 1 ∨ 1 + r = 2 ∨ 1 + r = 3 by omega)
  clear hr hm hr0 hm0 k0 k1 m0 m1
  by_cases hlen : 100 < nl
  · have hgt : (100 : Int) < (nl : Int) := by omega
    go_enter Tryz.func5, Tryz.ntmps5
    have hrm := HRM.out
    have hmm := HMM.out
    have hw2 := HW2.out
    have hrw := HRW.out
    have hmw := HMW.out
    have hmi := HMI.out
    go_wp2_with fail
    refine (obNew (1 + r) m pl w HKD.out).mono ?_
    clear hrm hmm hw2 hrw hmw hmi
    rintro e w1 hn
    obtain ⟨o, F, rfl, P1, b1, hF⟩ := OAt.new (Below.refl _ w) hn
    have HB1 := Lib.hid b1
    clear hn P1 b1 hF
    go_wp2_with fail
    refine (known w1).mono ?_
    rintro e w2 ⟨rfl, b2⟩
    have HB2 := Lib.hid (HB1.out.trans (b2.mono HB1.out.size))
    clear b2
    go_wp2
    go_ret
    exact ⟨rfl, HB2.out⟩
  · have hle : ¬ (100 : Int) < (nl : Int) := by omega
    have HNL := Lib.hid (show nl ≤ 1000 by omega)
    go_enter Tryz.func5, Tryz.ntmps5
    have hrm := HRM.out
    have hmm := HMM.out
    have hw2 := HW2.out
    have hrw := HRW.out
    have hmw := HMW.out
    have hmi := HMI.out
    go_wp2_with fail
    refine (obNew (1 + r) m pl w HKD.out).mono ?_
    clear hrm hmm hw2 hrw hmw hmi
    rintro e w1 hn
    rw [HMO.out] at hn
    obtain ⟨o, F, rfl, P1, b1, hF⟩ := OAt.new (Below.refl _ w) hn
    have C := deedsAny w1 al nl cl xs ⟨HX.out.1.keep b1, HX.out.2⟩ HNL.out
    have HP1 := Lib.hid P1
    clear hn P1 b1 hF
    go_wp2_with fail
    refine C.mono ?_
    clear C
    rintro e w2 ⟨ao, cp, ds, rfl, dA, df, d20, b2, nA, nD⟩
    obtain ⟨N, hN⟩ : ∃ N, ds.length = N := ⟨_, rfl⟩
    rw [hN] at dA d20 ⊢
    have HDS := Lib.hid (DeedsIn.new HP1.out dA df b2 nA nD)
    have HS := Lib.hid (show SpcAt w o (1 + r) m pl ao N ds (.slice none 0 0) w2 from ⟨F, ([], []), none, 0, rfl, HP1.out.fresh b2, ⟨rfl, fun h => absurd h (Nat.lt_irrefl 0)⟩, Nat.le_refl _, (fun y hy => by cases hy), HDS.out⟩)
    clear dA df b2 nA nD HDS HP1 hN hle
    go_wp2_with fail
    go_loopw [11, 12] (fun sv i wr => ∃ j : Nat, j ≤ N ∧ i = .int .i64 j ∧ SpcAt w o (1 + r) m pl ao N ds sv wr) (fun _ i _ => N - (intOf i).toNat)
    case atStart => exact ⟨0, Nat.zero_le _, rfl, HS.out⟩
    case round =>
      obtain ⟨j, hj, rfl, F, s, a, c, rfl, P, hs, hsc, hcl, hD⟩ := hrel
      clear HS
      by_cases hlt : j < N
      · obtain ⟨b, off, rfl, hbl, hcs, hnb, _, hcb, hco, hxf⟩ := hD.at_ hlt
        have HD := Lib.hid hD
        generalize ds.getD j Deed12.no = x at *
        have i1 : (j : Int) < N := by omega
        have p1 := hcs 1 _ rfl
        have p2 := hcs 2 _ rfl
        have HSL := Lib.hid (show (vals s.1).length ≤ 1000 by have := P.1.room; rw [vals_length]; omega)
        have C := refBatchN wr (1 + r) m a x.ao (vals s.1).length c x.na x.ca (vals s.1) x.os hs hsc hxf.os hxf.ok HSL.out hxf.na
        rw [HMO.out] at C
        have HP := Lib.hid P
        have HXF := Lib.hid hxf
        have HCL := Lib.hid (And.intro hcb (And.intro hco (And.intro hcl hnb)))
        have HCB := Lib.hid (fun W (hb : Below wr.heap.size wr W) => And.intro ((hb.cell (p := ⟨b, off + j * 3 + 1, none⟩) hbl).trans p1) ((hb.cell (p := ⟨b, off + j * 3 + 2, none⟩) hbl).trans p2))
        have HBL := Lib.hid hbl
        clear hcs hs hsc hcl hD P hcb hco hxf hnb hbl
        have hrm := HRM.out
        have hmm := HMM.out
        have hw2 := HW2.out
        have hrw := HRW.out
        have hmw := HMW.out
        have hmi := HMI.out
        go_wp2_with fail
        refine C.mono ?_
        clear C p1 p2 hrm hmm hw2 hrw hmw hmi
        rintro e w3 ⟨a3, c3, b3, rfl, r3, t3, bl3, l3, n3, na3⟩
        have hxn := HXF.out.os.1
        have P3 := HP.out.fresh bl3
        have HCA := Lib.hid (show ∀ y, a3 = some y → ¬ F y.block ∧ y.block < w3.heap.size from fun y hy => by
          rcases na3 y hy with h1 | h1
          · exact ⟨fun hf => by have := HP.out.lt _ hf; omega, h1.2⟩
          · have := HCL.out.2.2.1 y h1
            exact ⟨this.1, Nat.lt_of_lt_of_le this.2 bl3.size⟩)
        have HT3 := Lib.hid (And.intro t3 (show ¬ F b3 from fun hf => by have := HP.out.lt _ hf; omega))
        have HR3 := Lib.hid (And.intro r3 (And.intro l3 bl3))
        have p3 := (HCB.out w3 bl3).1
        have C := obFeed P3.1 x.bo x.nb x.cb x.bs (HXF.out.bs.keep bl3) HXF.out.by' (HCL.out.1.off) (Nat.le_trans HXF.out.nb (by decide))
        have HP3 := Lib.hid P3
        clear r3 t3 bl3 l3 n3 na3 P3
        go_wp2_with fail
        refine C.mono ?_
        clear C p3
        rintro e w4 ⟨rfl, d4⟩
        obtain ⟨F4, P4, wr4, l4⟩ := HP3.out.did d4
        have HL4 := Lib.hid (And.intro wr4 l4)
        have hlt3 : b < w3.heap.size := by have := HR3.out.2.2.size; have := HBL.out; omega
        have p4 : w4.cell? ⟨b, off + j * 3 + 2, none⟩ = some (.slice x.ao x.na x.ca) := (wr4.cell (p := ⟨b, off + j * 3 + 2, none⟩) hlt3 HCL.out.2.2.2).trans (HCB.out w3 HR3.out.2.2).2
        have HD4 := Lib.hid ((HD.out.fresh HR3.out.2.2).next wr4 l4)
        have HO4 := Lib.hid (And.intro ((HCL.out.2.1.fresh HR3.out.2.2).ops (HXF.out.os.keep HR3.out.2.2) wr4) ((HCL.out.2.1.fresh HR3.out.2.2).next wr4 l4))
        have HT4 := Lib.hid (And.intro (row_kept HT3.out.1 HT3.out.2 wr4) (show ¬ F4 b3 from l4.not HT3.out.2 HT3.out.1.lt))
        have HC4 := Lib.hid (show ∀ y, a3 = some y → ¬ F4 y.block ∧ y.block < w4.heap.size from fun y hy => ⟨l4.not (HCA.out y hy).1 (HCA.out y hy).2, Nat.lt_of_lt_of_le (HCA.out y hy).2 wr4.size⟩)
        have HR4 := Lib.hid (show Reads .i32 w4 a3 (batZ (1 + r) m (vals s.1) x.os).length (batZ (1 + r) m (vals s.1) x.os) from reads_offIf HR3.out.1 (fun _ y hy hf => (HCA.out y hy).1 hf) wr4)
        have C := obDo P4.1 x.ao x.ca HO4.out.1 HO4.out.2.off HXF.out.ok HXF.out.na
        have HP4 := Lib.hid P4
        clear d4 P4 wr4 l4 hlt3 HP3 HT3 HCA HL4 HD
        go_wp2_with fail
        refine C.mono ?_
        clear C p4
        rintro e w5 hp
        obtain ⟨g5, F5, rfl, rg, _, P5, ng, wr5, l5⟩ := HP4.out.post hp
        have HD5 := Lib.hid (HD4.out.next wr5 l5)
        have HT5 := Lib.hid (row_kept HT4.out.1 HT4.out.2 wr5)
        have HR5 := Lib.hid (show Reads .i32 w5 a3 (batZ (1 + r) m (vals s.1) x.os).length (batZ (1 + r) m (vals s.1) x.os) from reads_offIf HR4.out (fun _ y hy hf => (HC4.out y hy).1 hf) wr5)
        have HC5 := Lib.hid (show ∀ y, a3 = some y → ¬ F5 y.block ∧ y.block < w5.heap.size from fun y hy => ⟨l5.not (HC4.out y hy).1 (HC4.out y hy).2, Nat.lt_of_lt_of_le (HC4.out y hy).2 wr5.size⟩)
        have HP5 := Lib.hid P5
        have ta := rg.ops
        have tb := HT5.out.ops
        rw [batT_length, hxn] at ta tb
        have C := toldEq w5 (some ⟨g5, 0, none⟩) (some ⟨b3, 0, none⟩) x.na x.na x.na _ ta tb HXF.out.na
        clear hp rg P5 ng wr5 l5 ta tb HP4 HD4 HT4 HR4 HC4
        go_wp2_with fail
        refine C.mono ?_
        clear C
        rintro e w6 ⟨rfl, b6⟩
        have HP6 := Lib.hid (HP5.out.fresh b6)
        have HB6 := Lib.hid b6
        have C := obItems HP6.out.1
        rw [objS_vals] at C
        clear b6
        go_wp2_with fail
        refine C.mono ?_
        clear C
        rintro e w7 ⟨a7, c7, rfl, r7, _, _, b7⟩
        have HB7 := Lib.hid (HB6.out.trans (b7.mono HB6.out.size))
        have hzl := batZ_room (k := 1 + r) (os := x.os) (show ((vals s.1).length : Int) ≤ m by have := HP.out.1.room; rw [vals_length]; exact this.1)
        have C := sameEq w7 a7 a3 (batZ (1 + r) m (vals s.1) x.os).length c7 c3 _ r7 (HR5.out.keep HB7.out) (by have := HP.out.1.room; omega)
        have HR7 := Lib.hid (HR5.out.keep HB7.out)
        clear r7 b7 hzl HB6
        go_wp2_with fail
        refine C.mono ?_
        clear C
        rintro e w8 ⟨rfl, b8⟩
        have HB8 := Lib.hid (show Below w5.heap.size w5 w8 from HB7.out.trans (b8.mono HB7.out.size))
        have HNx := Lib.hid (show SpcAt w o (1 + r) m pl (some ⟨b, off, none⟩) N ds (.slice a3 (batZ (1 + r) m (vals s.1) x.os).length c3) w8 from by
          refine ⟨F5, objS (1 + r) m (s.1, feedL s.2 x.bs) x.os, a3, c3, by rw [objS_vals], HP5.out.fresh HB8.out, ?_, ?_, fun y hy => ⟨(HC5.out y hy).1, Nat.lt_of_lt_of_le (HC5.out y hy).2 HB8.out.size⟩, HD5.out.fresh HB8.out⟩
          · rw [objS_vals]; exact HR5.out.keep HB8.out
          · rw [objS_vals]; exact HR3.out.2.1)
        clear b8 HB7 HR7
        go_wp2
        go_roundw
        case rel => exact ⟨j + 1, by omega, by go_num, HNx.out⟩
        case measure => simp [intOf]; omega
      · obtain rfl : j = N := by omega
        have HB := Lib.hid P.2.1
        clear P hs hsc hcl hD hlt
        go_wp2_with fail
        refine (known wr).mono ?_
        rintro e w4 ⟨rfl, b4⟩
        have HB4 := Lib.hid (HB.out.trans (b4.mono HB.out.size))
        clear b4
        go_wp2
        go_ret
        exact ⟨rfl, HB4.out⟩

end Go.Proofs.YtniefplgijpckaaGreat
