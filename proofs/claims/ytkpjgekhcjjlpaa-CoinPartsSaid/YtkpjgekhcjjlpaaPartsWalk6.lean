/-
  The walk of CoinParts: for all bytes and numbers it answers true and leaves all old memory as it was.
-/
import Derived.Test.YtkpjgekhcjjlpaaCoinAt
import Derived.Test.YtkpjgekhcjjlpaaBitsWalk6
namespace Go.Proofs.Ytkpjgekhcjjlpaa
open Go.RowKit

/-- While both toss: the one has B more behind. -/
def Front (w : World) (p q : Nat) (B : List Bool) (m : Nat) (wr : World) : Prop := ∃ F G R, Two w F G p q (R ++ B) R wr ∧ R.length = m
/-- Both have the same bits. -/
def Same (w : World) (p q : Nat) (wr : World) : Prop := ∃ F G S, Two w F G p q S S wr

set_option maxRecDepth 100000 in
set_option maxHeartbeats 16000000 in
theorem partsWalk {w : World} (aa : Option Addr) (la ca : Nat) (za : List Int) (ab : Option Addr) (lb cb : Nat) (zb : List Int) (t : Int) (ha : ArgBytes w aa la ca za) (hla : la ≤ 140737488351232) (hb : ArgBytes w ab lb cb zb) (hlb : lb ≤ 140737488351232) (t0 : 0 ≤ t) (t1 : t ≤ 255) :
    Calls Try.prog 7 #[.slice aa la ca, .slice ab lb cb, .int .u8 t] w fun e w' => e = .returned (.bool true) ∧ Below w.heap.size w w' := by
  have HXA := Lib.hid ha
  have HXB := Lib.hid hb
  have HLA := Lib.hid ha.1.1
  have HLB := Lib.hid hb.1.1
  clear ha hb
  go_enter Try.func7, Try.ntmps7
  go_wp2_with fail
  refine (newAny w).mono ?_
  rintro e w1 ⟨rfl, s1, b1⟩
  have HA1 := Lib.hid (At.new s1 b1)
  clear s1 b1
  go_wp2_with fail
  refine (newAny w1).mono ?_
  rintro e w2 ⟨rfl, s2, b2⟩
  have k2 := HA1.out.copied s2 b2
  have HT2 := Lib.hid (show Two w (New w w1) (New w1 w2) w.heap.size w1.heap.size [] [] w2 from ⟨HA1.out.fresh b2, k2.1, k2.2⟩)
  clear s2 b2 k2 HA1
  generalize w1.heap.size = q at *
  generalize New w w1 = F2 at *
  generalize New w1 w2 = G2 at *
  by_cases hl : 100 < la + lb
  · have hb : decide ((100 : Int) < (la : Int) + (lb : Int)) = true := by simp; omega
    clear hl
    go_wp2_with (go_at_call 9; refine (known _).mono ?_; rintro e w3 ⟨rfl, b3⟩; have HB3 := Lib.hid (HT2.out.fresh b3).c.2.1; clear b3)
    go_ret
    exact ⟨rfl, HB3.out⟩
  · have hb : decide ((100 : Int) < (la : Int) + (lb : Int)) = false := by simp; omega
    have hn : la + lb ≤ 100 := by omega
    clear hl hla hlb
    have C := feedAny HT2.out.c.1 (cap := ca) (HXA.out.1.keep HT2.out.c.2.1) (HT2.out.c.old HXA.out.1.old) HXA.out.2.2.2 (by omega)
    go_wp2_with fail
    refine C.mono ?_
    clear C
    rintro e w3 ⟨rfl, d3⟩
    rw [feedL_small _ _ (by rw [HLA.out]; simp; omega), HLA.out, List.nil_append] at d3
    obtain ⟨F3, t3⟩ := HT2.out.nextC d3
    have HT3 := Lib.hid t3
    clear d3 t3 HT2
    have C := feedAny HT3.out.c.1 (cap := cb) (HXB.out.1.keep HT3.out.c.2.1) (HT3.out.c.old HXB.out.1.old) HXB.out.2.2.2 (by omega)
    go_wp2_with fail
    refine C.mono ?_
    clear C
    rintro e w4 ⟨rfl, d4⟩
    rw [feedL_small _ _ (by rw [HLB.out, first_length]; omega), HLB.out] at d4
    obtain ⟨F4, t4⟩ := HT3.out.nextC d4
    have HT4 := Lib.hid t4
    clear d4 t4 HT3
    have C := feedAny HT4.out.d.1 (cap := ca) (HXA.out.1.keep HT4.out.d.2.1) (HT4.out.d.old HXA.out.1.old) HXA.out.2.2.2 (by omega)
    go_wp2_with fail
    refine C.mono ?_
    clear C
    rintro e w5 ⟨rfl, d5⟩
    rw [feedL_small _ _ (by rw [HLA.out]; simp; omega), HLA.out, List.nil_append] at d5
    obtain ⟨G5, t5⟩ := HT4.out.nextD d5
    have HFr := Lib.hid (show Front w w.heap.size q (first zb (8 * lb)) (8 * la) w5 from ⟨F4, G5, _, t5, first_length _ _⟩)
    clear d5 t5 HT4
    obtain ⟨B, hB⟩ : ∃ B, first zb (8 * lb) = B := ⟨_, rfl⟩
    have HBB := Lib.hid hB
    have hlB : B.length = 8 * lb := by rw [← hB, first_length]
    have HLBB := Lib.hid hlB
    rw [hB] at HFr
    clear hlB hB
    obtain ⟨n, hn⟩ : ∃ n : Nat, n = min t.toNat (8 * la) := ⟨_, rfl⟩
    have hn1 : n ≤ 8 * la := by omega
    have HN := Lib.hid (show (if 8 * (la : Int) < t then 8 * (la : Int) else t) = (n : Int) by split <;> omega)
    clear hn
    go_upto_region 9 with (fail)
    rw [HN.out]
    clear HN
    go_wp2
    go_loopw [10] (fun i wr => ∃ k : Nat, k ≤ n ∧ i = .int .i64 k ∧ Front w w.heap.size q B (8 * la - k) wr) (fun i _ => n - (intOf i).toNat)
    case atStart => exact ⟨0, Nat.zero_le _, rfl, HFr.out⟩
    case round =>
      obtain ⟨k, hk, rfl, F, G, R, hT, hR⟩ := hrel
      clear HFr
      by_cases hlt : k < n
      · have i1 : (k : Int) < n := by omega
        obtain ⟨x, R', rfl⟩ : ∃ x R', R = x :: R' := by
          cases R with
          | nil => simp at hR; omega
          | cons x R' => exact ⟨x, R', rfl⟩
        have HT := Lib.hid hT
        have HR := Lib.hid (show R'.length = 8 * la - (k + 1) by simp at hR; omega)
        clear hT hR
        have C := tossOk x (show Coin wr F w.heap.size (x :: (R' ++ B)) from HT.out.c.1)
        go_wp2_with fail
        refine C.mono ?_
        clear C
        rintro e w6 ⟨rfl, d6⟩
        obtain ⟨F6, t6⟩ := HT.out.nextC d6
        have HT6 := Lib.hid t6
        clear d6 t6 HT
        have C := tossOk x HT6.out.d.1
        go_wp2_with fail
        refine C.mono ?_
        clear C
        rintro e w7 ⟨rfl, d7⟩
        obtain ⟨G7, t7⟩ := HT6.out.nextD d7
        have HT7 := Lib.hid (show Front w w.heap.size q B (8 * la - (k + 1)) w7 from ⟨F6, G7, R', t7, HR.out⟩)
        clear d7 t7 HT6 HR
        go_wp2
        go_roundw
        case rel => exact ⟨k + 1, by omega, by go_num, HT7.out⟩
        case measure => simp [intOf]; omega
      · obtain rfl : k = n := by omega
        have HT := Lib.hid hT
        have HR := Lib.hid hR
        clear hT hR
        have C := feedAny HT.out.d.1 (cap := cb) (HXB.out.1.keep HT.out.d.2.1) (HT.out.d.old HXB.out.1.old) HXB.out.2.2.2 (by omega)
        rw [feedL_small _ _ (by rw [HLB.out, HR.out]; omega), HLB.out, HBB.out] at C
        go_wp2_with fail
        refine C.mono ?_
        clear C
        rintro e w6 ⟨rfl, d6⟩
        obtain ⟨G6, t6⟩ := HT.out.nextD d6
        have HS := Lib.hid (show Same w w.heap.size q w6 from ⟨F, G6, _, t6⟩)
        clear d6 t6 HT
        go_wp2
        go_loopw [11] (fun i wr => ∃ j : Nat, j ≤ 20 ∧ i = .int .i64 j ∧ Same w w.heap.size q wr) (fun i _ => 20 - (intOf i).toNat)
        case atStart => exact ⟨0, Nat.zero_le _, rfl, HS.out⟩
        case round =>
          obtain ⟨j, hj, rfl, F, G, S, hT⟩ := hrel
          have HT := Lib.hid hT
          clear hT HS
          by_cases hlt2 : j < 20
          · have i2 : (j : Int) < 20 := by omega
            have u7 := up_le S
            have C := heightAny HT.out.c.1
            unfold High at C
            go_wp2_with fail
            refine C.mono ?_
            clear C
            rintro e w7 ⟨rfl, d7⟩
            obtain ⟨F7, t7⟩ := HT.out.nextC d7
            have HT7 := Lib.hid t7
            clear d7 t7 HT
            have C := heightAny HT7.out.d.1
            unfold High at C
            go_wp2_with fail
            refine C.mono ?_
            clear C
            rintro e w8 ⟨rfl, d8⟩
            obtain ⟨G8, t8⟩ := HT7.out.nextD d8
            have HT8 := Lib.hid t8
            clear d8 t8 HT7
            have C := leftAny HT8.out.c.1
            have D := leftAny HT8.out.d.1
            have HS8 := Lib.hid (show Same w w.heap.size q w8 from ⟨F7, G8, _, HT8.out⟩)
            clear HT8
            generalize (left S).length = l at *
            generalize up S = u at *
            go_wp2_with fail
            refine C.mono ?_
            clear C
            rintro e w' ⟨rfl, rfl⟩
            go_wp2_with fail
            refine D.mono ?_
            clear D
            rintro e w' ⟨rfl, rfl⟩
            go_wp2
            go_roundw
            case rel => exact ⟨j + 1, by omega, by go_num, HS8.out⟩
            case measure => simp [intOf]; omega
          · obtain rfl : j = 20 := by omega
            go_wp2_with (go_at_call 9; refine (known _).mono ?_; rintro e w9 ⟨rfl, b9⟩; have HB9 := Lib.hid (HT.out.fresh b9).c.2.1; clear b9)
            go_ret
            exact ⟨rfl, HB9.out⟩

end Go.Proofs.Ytkpjgekhcjjlpaa
