/-
  The function ObjectPlain returns true: plain or not the same is told, and stays, batch by batch, on all levels. Conditions: lists as they came in.
-/
import Derived.Test.YtniefplgijpckaaGreatPlain12m
namespace Go.Proofs.YtniefplgijpckaaGreat
open Go.RowKit Go.Lib

set_option maxRecDepth 100000 in
set_option maxHeartbeats 16000000 in
theorem plainWalk {w : World} (kd most : Int) (dl : Option Addr) (dn dc : Nat) (ds : List Deed12) (al : Option Addr) (nl cl : Nat) (xs : List Int) (kv : Int) (k0 : 0 ≤ kd) (k1 : kd ≤ 255) (_ : -9223372036854775808 ≤ most) (_ : most ≤ 9223372036854775807) (hd : ArgDeeds w dl dn dc ds) (hdn : dn ≤ 140737488351232) (hx : ArgBytes w al nl cl xs) (hnl : nl ≤ 140737488351232) (v0 : 0 ≤ kv) (v1 : kv ≤ 255) :
    Calls Tryz.prog 4 #[.int .u8 kd, .int .i64 most, .slice dl dn dc, .slice al nl cl, .int .u8 kv] w fun e w' => e = .returned (.bool true) ∧ Below w.heap.size w w' := by
  have HD := Lib.hid hd
  have HX := Lib.hid hx
  have C := heavyAny w dl dn dc ds hd.1 (argLens hd) hdn
  obtain ⟨r, hr⟩ : ∃ r, kd % 3 = r := ⟨_, rfl⟩
  obtain ⟨m, hm⟩ : ∃ m, kv % 9 = m := ⟨_, rfl⟩
  have hr0 : 0 ≤ r ∧ r ≤ 2 := by omega
  have hm0 : 0 ≤ m ∧ m ≤ 8 := by omega
  have HRM := Lib.hid (show kd.tmod 3 = r by rw [Int.tmod_eq_emod_of_nonneg k0]; exact hr)
  have HMM := Lib.hid (show kv.tmod 9 = m by rw [Int.tmod_eq_emod_of_nonneg v0]; exact hm)
  have HW2 := Lib.hid (show IntKind.u8.wrap r = r by rw [IntKind.wrap_u8]; omega)
  have HRW := Lib.hid (show (1 + r) % 256 = 1 + r by omega)
  have HMW := Lib.hid (show IntKind.u8.wrap m = m by rw [IntKind.wrap_u8]; omega)
  have HMI := Lib.hid (show IntKind.i64.wrap m = m by rw [IntKind.wrap_i64]; omega)
  have HKD := Lib.hid (show 1 + r = 1 ∨ 1 + r = 2 ∨ 1 + r = 3 by omega)
  clear hr hm hr0 hm0 k0 k1 v0 v1 hd hx
  go_enter Tryz.func4, Tryz.ntmps4
  go_wp2_with fail
  refine C.mono ?_
  clear C
  rintro e w1 ⟨T, rfl, b1, hT⟩
  have HB1 := Lib.hid b1
  have HT := Lib.hid hT
  clear b1 hT
  by_cases h3 : T ≤ 300
  · have hle : ¬ (300 : Int) < (T : Int) := by omega
    by_cases h1 : nl ≤ 100
    · have hln : ¬ (100 : Int) < (nl : Int) := by omega
      have HF := Lib.hid (argFine HD.out (HT.out h3))
      have HNL := Lib.hid (show nl ≤ 1000 by omega)
      clear h3 h1
      go_wp2_with fail
      refine (known w1).mono ?_
      rintro e w2 ⟨rfl, b2⟩
      have HB2 := Lib.hid (HB1.out.trans (b2.mono HB1.out.size))
      have C := plainAny12 w2 (1 + r) most dl dn dc ds HKD.out (HD.out.1.keep HB2.out) (fun x h => (HF.out.1 x h).keep HB2.out) (Nat.le_trans HF.out.2 (by decide))
      have hrm := HRM.out
      have hw2 := HW2.out
      have hrw := HRW.out
      clear b2 HB1
      go_wp2_with fail
      refine C.mono ?_
      clear C hrm hw2 hrw
      rintro e w3 ⟨rfl, b3⟩
      have HB3 := Lib.hid (HB2.out.trans (b3.mono HB2.out.size))
      have C := deedsAny w3 al nl cl xs ⟨HX.out.1.keep HB3.out, HX.out.2⟩ HNL.out
      have hrm := HRM.out
      have hw2 := HW2.out
      have hrw := HRW.out
      have hmm := HMM.out
      have hmw := HMW.out
      have hmi := HMI.out
      clear b3 HB2
      go_wp2_with fail
      refine C.mono ?_
      clear C
      rintro e w4 ⟨ao, cp, es, rfl, dA, df, d20, b4, _, _⟩
      have HB4 := Lib.hid (HB3.out.trans (b4.mono HB3.out.size))
      have C := plainAny12 w4 (1 + r) m ao es.length cp es HKD.out dA df (Nat.le_trans d20 (by decide))
      clear dA df b4 HB3
      go_wp2_with fail
      refine C.mono ?_
      clear C hrm hw2 hrw hmm hmw hmi
      rintro e w5 ⟨rfl, b5⟩
      have HB5 := Lib.hid (HB4.out.trans (b5.mono HB4.out.size))
      clear b5
      go_wp2
      go_ret
      exact ⟨rfl, HB5.out⟩
    · have hln : (100 : Int) < (nl : Int) := by omega
      clear h3 h1
      go_wp2_with fail
      refine (known w1).mono ?_
      rintro e w2 ⟨rfl, b2⟩
      have HB2 := Lib.hid (HB1.out.trans (b2.mono HB1.out.size))
      clear b2
      go_wp2
      go_ret
      exact ⟨rfl, HB2.out⟩
  · have hle : (300 : Int) < (T : Int) := by omega
    clear h3
    go_wp2_with fail
    refine (known w1).mono ?_
    rintro e w2 ⟨rfl, b2⟩
    have HB2 := Lib.hid (HB1.out.trans (b2.mono HB1.out.size))
    clear b2
    go_wp2
    go_ret
    exact ⟨rfl, HB2.out⟩

end Go.Proofs.YtniefplgijpckaaGreat
