/-
  The function ObjectDoes returns true: objects, deed by deed, are alike with the document's one; made with kinds that are none, there is none. Conditions: lists as they came in.
-/
import Derived.Test.YtniefplgijpckaaGreatDoes12m
import Derived.Test.YtniefplgijpckaaGreatDeB12
namespace Go.Proofs.YtniefplgijpckaaGreat
open Go.RowKit Go.Lib

set_option maxRecDepth 100000 in
set_option maxHeartbeats 16000000 in
theorem doesWalk {w : World} (kd most kv : Int) (dl : Option Addr) (dn dc : Nat) (ds : List Deed12) (al : Option Addr) (nl cl : Nat) (xs : List Int) (k0 : 0 ≤ kd) (_ : kd ≤ 255) (_ : -9223372036854775808 ≤ most) (_ : most ≤ 9223372036854775807) (v0 : 0 ≤ kv) (_ : kv ≤ 255) (hd : ArgDeeds w dl dn dc ds) (hdn : dn ≤ 140737488351232) (hx : ArgBytes w al nl cl xs) (hnl : nl ≤ 140737488351232) :
    Calls Tryz.prog 3 #[.int .u8 kd, .int .i64 most, .int .u8 kv, .slice dl dn dc, .slice al nl cl] w fun e w' => e = .returned (.bool true) ∧ Below w.heap.size w w' := by
  have HD := Lib.hid hd
  have HX := Lib.hid hx
  have C := heavyAny w dl dn dc ds hd.1 (argLens hd) hdn
  obtain ⟨r, hr⟩ : ∃ r, kd % 3 = r := ⟨_, rfl⟩
  obtain ⟨a, ha⟩ : ∃ a, kv % 3 = a := ⟨_, rfl⟩
  obtain ⟨m, hm⟩ : ∃ m, kv % 11 = m := ⟨_, rfl⟩
  obtain ⟨p, hp⟩ : ∃ p, kv % 5 = p := ⟨_, rfl⟩
  have hr0 : 0 ≤ r ∧ r ≤ 2 := by omega
  have ha0 : 0 ≤ a ∧ a ≤ 2 := by omega
  have hm0 : 0 ≤ m ∧ m ≤ 10 := by omega
  have hp0 : 0 ≤ p ∧ p ≤ 4 := by omega
  have HRM := Lib.hid (show kd.tmod 3 = r by rw [Int.tmod_eq_emod_of_nonneg k0]; exact hr)
  have HRU := Lib.hid (show IntKind.u8.wrap r = r by rw [IntKind.wrap_u8]; omega)
  have HRW := Lib.hid (show (1 + r) % 256 = 1 + r by omega)
  have HAM := Lib.hid (show kv.tmod 3 = a by rw [Int.tmod_eq_emod_of_nonneg v0]; exact ha)
  have HAU := Lib.hid (show IntKind.u8.wrap a = a by rw [IntKind.wrap_u8]; omega)
  have HAW := Lib.hid (show (1 + a) % 256 = 1 + a by omega)
  have HMM := Lib.hid (show kv.tmod 11 = m by rw [Int.tmod_eq_emod_of_nonneg v0]; exact hm)
  have HMU := Lib.hid (show IntKind.u8.wrap m = m by rw [IntKind.wrap_u8]; omega)
  have HMI := Lib.hid (show IntKind.i64.wrap m = m by rw [IntKind.wrap_i64]; omega)
  have HPM := Lib.hid (show kv.tmod 5 = p by rw [Int.tmod_eq_emod_of_nonneg v0]; exact hp)
  have HPU := Lib.hid (show IntKind.u8.wrap p = p by rw [IntKind.wrap_u8]; omega)
  have HPI := Lib.hid (show IntKind.i64.wrap p = p by rw [IntKind.wrap_i64]; omega)
  have HKD := Lib.hid (show 1 + r = 1 ∨ 1 + r = 2 ∨ 1 + r = 3 by omega)
  have HKA := Lib.hid (show 1 + a = 1 ∨ 1 + a = 2 ∨ 1 + a = 3 by omega)
  have HK0 := Lib.hid k0
  clear hr ha hm hp hr0 ha0 hm0 hp0 k0 v0 hd hx
  go_enter Tryz.func3, Tryz.ntmps3
  go_wp2_with fail
  refine C.mono ?_
  clear C
  rintro e w1 ⟨T, rfl, b1, hT⟩
  have HB1 := Lib.hid b1
  have HT := Lib.hid hT
  clear b1 hT
  by_cases h3 : T ≤ 300
  · have hle : ¬ (300 : Int) < (T : Int) := by omega
    by_cases h1 : nl ≤ 100
    · have hln : ¬ (100 : Int) < (nl : Int) := by omega
      have HF := Lib.hid (argFine HD.out (HT.out h3))
      have HNL := Lib.hid (show nl ≤ 1000 by omega)
      clear h3 h1
      go_wp2_with fail
      refine (known w1).mono ?_
      rintro e w2 ⟨rfl, b2⟩
      have HB2 := Lib.hid (HB1.out.trans (b2.mono HB1.out.size))
      have C := doesAny12 w2 (1 + r) most dl dn dc ds HKD.out (HD.out.1.keep HB2.out) (fun x h => (HF.out.1 x h).keep HB2.out) (Nat.le_trans HF.out.2 (by decide))
      have hrm := HRM.out
      have hru := HRU.out
      have hrw := HRW.out
      clear b2 HB1
      go_wp2_with fail
      refine C.mono ?_
      clear C hrm hru hrw
      rintro e w3 ⟨rfl, b3⟩
      have HB3 := Lib.hid (HB2.out.trans (b3.mono HB2.out.size))
      have C := deedsAny w3 al nl cl xs ⟨HX.out.1.keep HB3.out, HX.out.2⟩ HNL.out
      have ham := HAM.out
      have hau := HAU.out
      have haw := HAW.out
      have hmm := HMM.out
      have hmu := HMU.out
      have hmi := HMI.out
      clear b3 HB2
      go_wp2_with fail
      refine C.mono ?_
      clear C
      rintro e w4 ⟨ao, cp, es, rfl, dA, df, d20, b4, _, _⟩
      have HB4 := Lib.hid (HB3.out.trans (b4.mono HB3.out.size))
      have C := doesAny12 w4 (1 + a) m ao es.length cp es HKA.out dA df (Nat.le_trans d20 (by decide))
      clear dA df b4 HB3
      go_wp2_with fail
      refine C.mono ?_
      clear C ham hau haw hmm hmu hmi
      rintro e w5 ⟨rfl, b5⟩
      have HB5 := Lib.hid (HB4.out.trans (b5.mono HB4.out.size))
      have C := doesAny12 w5 (1 + r) p dl dn dc ds HKD.out (HD.out.1.keep HB5.out) (fun x h => (HF.out.1 x h).keep HB5.out) (Nat.le_trans HF.out.2 (by decide))
      have hrm := HRM.out
      have hru := HRU.out
      have hrw := HRW.out
      have hpm := HPM.out
      have hpu := HPU.out
      have hpi := HPI.out
      clear b5 HB4
      go_wp2_with fail
      refine C.mono ?_
      clear C hrm hru hrw hpm hpu hpi
      rintro e w6 ⟨rfl, b6⟩
      have HB6 := Lib.hid (HB5.out.trans (b6.mono HB5.out.size))
      clear b6 HB5
      by_cases hz : kd = 0
      · subst hz
        go_wp2_with fail
        refine (obNone 0 most true w6 (by decide) (by decide) (by decide)).mono ?_
        rintro e w7 ⟨rfl, b7⟩
        have HB7 := Lib.hid (HB6.out.trans (b7.mono HB6.out.size))
        clear b7 HB6
        go_wp2
        go_ret
        exact ⟨rfl, HB7.out⟩
      · have g1 : (1 : Int) ≤ kd := by have := HK0.out; omega
        by_cases g3 : kd ≤ 3
        · have C := obNew kd most true w6 (by omega)
          go_wp2_with fail
          refine C.mono ?_
          clear C
          rintro e w7 ⟨o, rfl, _, b7⟩
          have HB7 := Lib.hid (HB6.out.trans (b7.mono HB6.out.size))
          clear b7 HB6
          go_wp2
          go_ret
          exact ⟨rfl, HB7.out⟩
        · have C := obNone kd most true w6 (by omega) (by omega) (by omega)
          go_wp2_with fail
          refine C.mono ?_
          clear C
          rintro e w7 ⟨rfl, b7⟩
          have HB7 := Lib.hid (HB6.out.trans (b7.mono HB6.out.size))
          clear b7 HB6
          go_wp2
          go_ret
          exact ⟨by show Ending.returned (Value.bool (!decide (kd ≤ 3))) = _; rw [decide_eq_false (show ¬ kd ≤ 3 by omega)]; rfl, HB7.out⟩
    · have hln : (100 : Int) < (nl : Int) := by omega
      clear h3 h1
      go_wp2_with fail
      refine (known w1).mono ?_
      rintro e w2 ⟨rfl, b2⟩
      have HB2 := Lib.hid (HB1.out.trans (b2.mono HB1.out.size))
      clear b2
      go_wp2
      go_ret
      exact ⟨rfl, HB2.out⟩
  · have hle : (300 : Int) < (T : Int) := by omega
    clear h3
    go_wp2_with fail
    refine (known w1).mono ?_
    rintro e w2 ⟨rfl, b2⟩
    have HB2 := Lib.hid (HB1.out.trans (b2.mono HB1.out.size))
    clear b2
    go_wp2
    go_ret
    exact ⟨rfl, HB2.out⟩

end Go.Proofs.YtniefplgijpckaaGreat
