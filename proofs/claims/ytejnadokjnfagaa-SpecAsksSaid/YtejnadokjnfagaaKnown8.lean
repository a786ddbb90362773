/-
  The chapter's example holds: known answers true; equality of what is told. Conditions: lists of at most a thousand.
-/
import Derived.Test.YtejnadokjnfagaaBatch8
import Derived.Test.YtejnadokjnfagaaRef05S
namespace Go.Proofs.Ytejnadokjnfagaa
open Go.RowKit Go.Lib

set_option maxRecDepth 100000 in
set_option maxHeartbeats 1600000 in
theorem toldEq (w : World) (a b : Option Addr) (n c d : Nat) (rs : List (Int × Int)) (ha : OpsAt w a n rs) (hb : OpsAt w b n rs) (hl : n ≤ 1000) :
    Calls Try.prog 18 #[.slice a n c, .slice b n d] w fun e w' => e = .returned (.bool true) ∧ Below w.heap.size w w' := by
  have hq := eqSelf
  have HA := Lib.hid ha
  have HB := Lib.hid hb
  clear ha hb
  go_enter Try.func18, Try.ntmps18
  go_wp2
  go_loopw [5] (fun i wr => ∃ k : Nat, k ≤ n ∧ i = .int .i64 k ∧ Below w.heap.size w wr) (fun i _ => n - (intOf i).toNat)
  case atStart => exact ⟨0, Nat.zero_le _, rfl, Below.refl _ _⟩
  case round =>
    obtain ⟨k, hk, rfl, hbe⟩ := hrel
    have HE := Lib.hid hbe
    by_cases hlt : k < n
    · obtain ⟨b1, o1, rfl, l1, h1⟩ := (HA.out.keep hbe).2 (by omega)
      obtain ⟨b2, o2, rfl, l2, h2⟩ := (HB.out.keep hbe).2 (by omega)
      obtain ⟨c1, c2⟩ := h1 k hlt
      obtain ⟨c3, c4⟩ := h2 k hlt
      have i0 : (k : Int) < n := by omega
      clear h1 h2 hbe
      generalize (rs.getD k (0, 0)).1 = e1 at *
      generalize (rs.getD k (0, 0)).2 = e2 at *
      go_wp2
      go_quiet (fail)
      go_wp2
      go_roundw
      case rel => exact ⟨k + 1, by omega, by go_num, below_drewN HE.out _⟩
      case measure => simp [intOf]; omega
    · clear hbe
      go_wp2
      go_ret
      exact ⟨rfl, HE.out⟩

set_option maxRecDepth 100000 in
set_option maxHeartbeats 4000000 in
theorem known (w : World) : Calls Try.prog 10 #[] w fun e w' => e = .returned (.bool true) ∧ Below w.heap.size w w' := by
  have hb1 : Below w.heap.size w (w.alloc (.cells #[.int .u8 2, .int .i32 0, .int .u8 1, .int .i32 5, .int .u8 1, .int .i32 3] 36)) := (Below.refl _ _).alloc (Nat.le_refl _) _
  have C := batchAny (w.alloc (.cells #[.int .u8 2, .int .i32 0, .int .u8 1, .int .i32 5, .int .u8 1, .int .i32 3] 36)) 3 2 none (some ⟨w.heap.size, 0, none⟩) 0 0 3 3 [] [(2, 0), (1, 5), (1, 3)] ⟨rfl, fun h => by omega⟩ ⟨rfl, fun _ => ⟨w.heap.size, 0, rfl, by simp, fun i hi => by
    match i, hi with
    | 0, _ => exact ⟨by go_simp, by go_simp⟩
    | 1, _ => exact ⟨by go_simp, by go_simp⟩
    | 2, _ => exact ⟨by go_simp, by go_simp⟩⟩⟩ (by omega) (by omega)
  have HC := Lib.hid C
  have HB1 := Lib.hid hb1
  clear C hb1
  go_enter Try.func10, Try.ntmps10
  go_wp2_with fail
  refine HC.out.mono ?_
  rintro e w2 ⟨v', b, rfl, t2, r2, _, _, b2⟩
  have ez : batZ 3 (mostOf 2) [] [(2, 0), (1, 5), (1, 3)] = [5] := by decide +kernel
  have et : batT 3 (mostOf 2) [] [(2, 0), (1, 5), (1, 3)] = [(2, 3), (1, 0), (1, 0)] := by decide +kernel
  rw [ez] at t2
  rw [et] at r2
  obtain ⟨ao, cap, rfl, rd, _⟩ := tailReads t2
  have HB2 := Lib.hid (HB1.out.trans (b2.mono HB1.out.size))
  have HT := Lib.hid rd
  have HR := Lib.hid r2
  clear ez et t2 rd r2 b2 HC HB1
  have hb3 : Below w2.heap.size w2 (w2.alloc (.cells #[.int .i32 5] 21)) := (Below.refl _ _).alloc (Nat.le_refl _) _
  have S := sameEq (w2.alloc (.cells #[.int .i32 5] 21)) ao (some ⟨w2.heap.size, 0, none⟩) 1 cap 1 [5] (HT.out.keep hb3) ⟨rfl, fun _ => ⟨w2.heap.size, 0, rfl, by simp, fun i hi => by obtain rfl : i = 0 := (by omega); go_simp⟩⟩ (by omega)
  have HS := Lib.hid S
  have HB3 := Lib.hid (HB2.out.trans (hb3.mono HB2.out.size))
  have HR3 := Lib.hid (HR.out.below hb3)
  clear S hb3 HB2 HR HT
  go_wp2_with fail
  refine HS.out.mono ?_
  rintro e w4 ⟨rfl, b4⟩
  have HB4 := Lib.hid (HB3.out.trans (b4.mono HB3.out.size))
  have HR4 := Lib.hid (HR3.out.below b4)
  clear b4 HS HB3 HR3
  have hb5 : Below w4.heap.size w4 (w4.alloc (.cells #[.int .u8 2, .int .i32 3, .int .u8 1, .int .i32 0, .int .u8 1, .int .i32 0] 32)) := (Below.refl _ _).alloc (Nat.le_refl _) _
  have T := toldEq (w4.alloc (.cells #[.int .u8 2, .int .i32 3, .int .u8 1, .int .i32 0, .int .u8 1, .int .i32 0] 32)) (some ⟨b, 0, none⟩) (some ⟨w4.heap.size, 0, none⟩) 3 3 3 [(2, 3), (1, 0), (1, 0)] (by have := (HR4.out.below hb5).ops; simpa using this) ⟨rfl, fun _ => ⟨w4.heap.size, 0, rfl, by simp, fun i hi => by
    match i, hi with
    | 0, _ => exact ⟨by go_simp, by go_simp⟩
    | 1, _ => exact ⟨by go_simp, by go_simp⟩
    | 2, _ => exact ⟨by go_simp, by go_simp⟩⟩⟩ (by omega)
  have HT := Lib.hid T
  have HB5 := Lib.hid (HB4.out.trans (hb5.mono HB4.out.size))
  clear T hb5 HB4 HR4
  go_wp2_with fail
  refine HT.out.mono ?_
  rintro e w6 ⟨rfl, b6⟩
  have HB6 := Lib.hid (HB5.out.trans (b6.mono HB5.out.size))
  clear b6 HT HB5
  go_wp2
  go_ret
  exact ⟨rfl, HB6.out⟩

end Go.Proofs.Ytejnadokjnfagaa
