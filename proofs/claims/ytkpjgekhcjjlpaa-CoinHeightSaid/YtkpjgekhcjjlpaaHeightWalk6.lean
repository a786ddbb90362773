/-
  The walk of CoinHeight: for all numbers and bytes it answers true and leaves all old memory as it was.
-/
import Derived.Test.YtkpjgekhcjjlpaaBitsWalk6
namespace Go.Proofs.Ytkpjgekhcjjlpaa
open Go.RowKit

/-- As many ones as these, and noughts: eight bits in all. -/
theorem first_ones (k : Nat) (hk : k ≤ 8) : first [(2 ^ k - 1) % 256] 8 = List.replicate k true ++ List.replicate (8 - k) false := by
  match k, hk with
  | 0, _ => decide
  | 1, _ => decide
  | 2, _ => decide
  | 3, _ => decide
  | 4, _ => decide
  | 5, _ => decide
  | 6, _ => decide
  | 7, _ => decide
  | 8, _ => decide

theorem ones_up (k : Nat) (hk : k ≤ 8) (bs : List Bool) : up (List.replicate k true ++ List.replicate (8 - k) false ++ bs) = min k 7 ∧ (left (List.replicate k true ++ List.replicate (8 - k) false ++ bs)).length + min (k + 1) 7 = 8 + bs.length := by
  match k, hk with
  | 0, _ => exact ⟨rfl, by simp [left, rise, List.replicate]; omega⟩
  | 1, _ => exact ⟨rfl, by simp [left, rise, List.replicate]; omega⟩
  | 2, _ => exact ⟨rfl, by simp [left, rise, List.replicate]; omega⟩
  | 3, _ => exact ⟨rfl, by simp [left, rise, List.replicate]; omega⟩
  | 4, _ => exact ⟨rfl, by simp [left, rise, List.replicate]; omega⟩
  | 5, _ => exact ⟨rfl, by simp [left, rise, List.replicate]; omega⟩
  | 6, _ => exact ⟨rfl, by simp [left, rise, List.replicate]; omega⟩
  | 7, _ => exact ⟨rfl, by simp [left, rise, List.replicate]; omega⟩
  | 8, _ => exact ⟨rfl, by simp [left, rise, List.replicate]; omega⟩

set_option maxHeartbeats 8000000 in
theorem heightWalk {w : World} (a : Int) (ao : Option Addr) (n cap : Nat) (zs : List Int) (a0 : 0 ≤ a) (a1 : a ≤ 255) (hx : ArgBytes w ao n cap zs) (hlen : n ≤ 140737488351232) :
    Calls Try.prog 5 #[.int .u8 a, .slice ao n cap] w fun e w' => e = .returned (.bool true) ∧ Below w.heap.size w w' := by
  have HX := Lib.hid hx
  have HL := Lib.hid hx.1.1
  clear hx
  go_enter Try.func5, Try.ntmps5
  go_wp2_with fail
  refine (new1 w).mono ?_
  rintro e w1 ⟨rfl, c1, b1⟩
  by_cases hl : 60 < n
  · have hb : decide ((60 : Int) < (n : Int)) = true := by simp; omega
    clear hl hlen c1
    have HB1 := Lib.hid b1
    clear b1
    go_wp2_with (go_at_call 9; refine (known _).mono ?_; rintro e w2 ⟨rfl, b2⟩; have HB2 := Lib.hid (HB1.out.trans (b2.mono HB1.out.size)); clear b2)
    go_ret
    exact ⟨rfl, HB2.out⟩
  · have hb : decide ((60 : Int) < (n : Int)) = false := by simp; omega
    have hn : n ≤ 60 := by omega
    obtain ⟨k, hk⟩ : ∃ k : Nat, (k : Int) = a % 9 := ⟨(a % 9).toNat, by omega⟩
    have hk8 : k ≤ 8 := by omega
    have HK := Lib.hid hk
    have HZ := Lib.hid (show 0 ≤ (2 ^ k - 1 : Int) % 256 ∧ (2 ^ k - 1 : Int) % 256 ≤ 255 by omega)
    have C := feedLit1 c1 ((2 ^ k - 1) % 256) HZ.out.1 HZ.out.2 5
    rw [feedL_small _ _ (by simp), List.nil_append, show 8 * [(2 ^ k - 1 : Int) % 256].length = 8 from rfl, first_ones k hk8] at C
    have HB1 := Lib.hid b1
    have HR := Lib.hid (HX.out.1.keep b1)
    clear hl hlen c1 b1 hk HZ
    go_upto_region 5 with (fail)
    rw [← HK.out]
    clear HK a0 a1
    go_wp2_with fail
    refine C.mono ?_
    clear C
    rintro e w2 ⟨rfl, c2, b2⟩
    have C := feed1 c2 (HX.out.1.keep (HB1.out.trans b2)) (cap := cap) HX.out.1.old HX.out.2.2.2 (by omega)
    have HO := Lib.hid (ones_up k hk8 (first zs (8 * n)))
    have hlo : (List.replicate k true ++ List.replicate (8 - k) false).length = 8 := by simp; omega
    have hla : (List.replicate k true ++ List.replicate (8 - k) false ++ first zs (8 * n)).length = 8 + 8 * n := by rw [List.length_append, hlo, first_length]
    rw [feedL_small _ _ (by rw [hlo, HL.out]; omega), HL.out] at C
    have HA := Lib.hid hla
    have HB2 := Lib.hid (HB1.out.trans b2)
    clear c2 b2 hlo hla HB1 HR
    generalize List.replicate k true ++ List.replicate (8 - k) false ++ first zs (8 * n) = bs at *
    go_wp2_with fail
    refine C.mono ?_
    clear C
    rintro e w3 ⟨rfl, c3, b3⟩
    have C := left1 c3
    rw [HA.out, show ((8 + 8 * n : Nat) : Int) = 8 + 8 * (n : Int) by omega] at C
    have D := height1 c3
    have HB3 := Lib.hid (HB2.out.trans b3)
    have hl0 := left_le bs
    rw [HA.out] at hl0
    clear c3 b3 HB2
    go_wp2_with fail
    refine C.mono ?_
    clear C
    rintro e w' ⟨rfl, rfl⟩
    go_wp2_with fail
    refine D.mono ?_
    clear D
    rintro e w4 ⟨rfl, c4, b4⟩
    have HC4 := Lib.hid c4
    have HB4 := Lib.hid (HB3.out.trans b4)
    clear c4 b4 HB3
    rw [first_length] at HO
    generalize left bs = ls at *
    generalize up bs = u at *
    have C := fun (wx : World) (h : Below w4.heap.size w4 wx) => left1 (HC4.out.fresh h)
    generalize hL : ls.length = l at *
    rcases (show k ≤ 6 ∨ k = 7 ∨ k = 8 by omega) with h6 | rfl | rfl
    · obtain ⟨o1, o2⟩ := HO.out
      rw [Nat.min_eq_left (by omega)] at o1
      rw [Nat.min_eq_left (by omega)] at o2
      rw [show (u : Int) + 1 = (k : Int) + 1 by omega]
      have hq : (8 + 8 * (n : Int) - (l : Int) == (k : Int) + 1) = true := by simp; omega
      clear o1 o2 HO hL
      go_wp2_with fail
      refine (known _).mono ?_
      rintro e w5 ⟨rfl, b5⟩
      have C5 := C _ b5
      have HB5 := Lib.hid (HB4.out.trans (b5.mono HC4.out.base))
      clear b5 C
      go_wp2_with fail
      refine C5.mono ?_
      rintro e w' ⟨rfl, rfl⟩
      go_wp2
      go_ret
      exact ⟨rfl, HB5.out⟩
    · obtain ⟨o1, o2⟩ := HO.out
      rw [show min 7 7 = 7 from rfl] at o1
      rw [show min (7 + 1) 7 = 7 from rfl] at o2
      rw [show (u : Int) + 1 = 8 by omega]
      have hq : (8 + 8 * (n : Int) - (l : Int) == 7) = true := by simp; omega
      clear o1 o2 HO hL
      go_wp2_with fail
      refine (known _).mono ?_
      rintro e w5 ⟨rfl, b5⟩
      have C5 := C _ b5
      have HB5 := Lib.hid (HB4.out.trans (b5.mono HC4.out.base))
      clear b5 C
      go_wp2_with fail
      refine C5.mono ?_
      rintro e w' ⟨rfl, rfl⟩
      go_wp2
      go_ret
      exact ⟨rfl, HB5.out⟩
    · obtain ⟨o1, o2⟩ := HO.out
      rw [show min 8 7 = 7 from rfl] at o1
      rw [show min (8 + 1) 7 = 7 from rfl] at o2
      rw [show (u : Int) + 1 = 8 by omega]
      have hq : (8 + 8 * (n : Int) - (l : Int) == 7) = true := by simp; omega
      clear o1 o2 HO hL
      go_wp2_with fail
      refine (known _).mono ?_
      rintro e w5 ⟨rfl, b5⟩
      have C5 := C _ b5
      have HB5 := Lib.hid (HB4.out.trans (b5.mono HC4.out.base))
      clear b5 C
      go_wp2_with fail
      refine C5.mono ?_
      rintro e w' ⟨rfl, rfl⟩
      go_wp2
      go_ret
      exact ⟨rfl, HB5.out⟩

end Go.Proofs.Ytkpjgekhcjjlpaa
