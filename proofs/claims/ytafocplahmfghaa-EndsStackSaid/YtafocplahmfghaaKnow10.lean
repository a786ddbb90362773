/-
  What Spared of package ends answers, and the chapter's example. Conditions: operations that lie in memory, at most a million.
-/
import Derived.Test.YtafocplahmfghaaPairs10
namespace Go.Proofs.Ytafocplahmfghaa
open Go.RowKit

set_option maxHeartbeats 3200000 in
theorem sparedAny (w : World) (x most : Int) (ao : Option Addr) (n cap : Nat) (os : List (Int × Int)) (ho : OpsAt w ao n os) (hn : n ≤ 1000000) :
    Calls Try.prog 21 #[.int .i64 x, .int .i64 most, .slice ao n cap] w fun e w' => e = .returned (.int .i64 (metN (dpL (mostOf most) (olds (haveOf x (mostOf most))) (kindsOf os) n))) ∧ Below w.heap.size w w' := by
  have C := pairsAny w x most ao n cap os ho hn
  obtain ⟨xs, hx⟩ : ∃ xs, dpL (mostOf most) (olds (haveOf x (mostOf most))) (kindsOf os) n = xs := ⟨_, rfl⟩
  have hl : xs.length = n := by rw [← hx]; exact dpL_length
  rw [hx]
  have HX := Lib.hid hx
  have HL := Lib.hid hl
  clear ho hx hl
  go_enter Try.func21, Try.ntmps21
  go_wp2_with fail
  refine C.mono ?_
  clear C
  rintro e w1 ⟨gw, gc, rfl, r1, r2, l1, l2, hne, b1⟩
  rw [HX.out] at r1
  have HR := Lib.hid r1
  have HB := Lib.hid b1
  clear r1 r2 b1 l1 l2 hne
  go_wp2
  go_loop [9, 21] (fun m i => ∃ k : Nat, k ≤ n ∧ i = .int .i64 k ∧ m = .int .i64 (metN (xs.take k))) (fun _ i => n - (intOf i).toNat)
  case atStart => exact ⟨0, Nat.zero_le _, rfl, rfl⟩
  case round =>
    obtain ⟨k, hk, rfl, rfl⟩ := hrel
    by_cases hlt : k < n
    · have c := HR.out.cell (i := k) (by rw [HL.out]; exact hlt)
      have hs := metN_take xs k (by rw [HL.out]; exact hlt)
      have hi := metN_in (xs.take k)
      have hi2 : metN (xs.take k) ≤ 1000000 := by have := List.length_take_le k xs; omega
      have i1 : (k : Int) < (n : Int) := by omega
      have hi0 := hi.1
      clear hi
      generalize xs.getD k 0 = z at *
      generalize metN (xs.take k) = q at *
      by_cases hz : z = -1
      · subst hz
        rw [if_pos rfl] at hs
        have HS := Lib.hid hs
        clear hs
        go_wp2
        go_round
        case rel => exact ⟨k + 1, by omega, by go_num, by rw [HS.out]; go_num⟩
        case measure => simp [intOf]; omega
      · rw [if_neg hz] at hs
        have HS := Lib.hid hs
        have hz1 : (z != -1) = true := by simpa using hz
        clear hs hz
        go_wp2
        go_round
        case rel => exact ⟨k + 1, by omega, by go_num, by rw [HS.out]⟩
        case measure => simp [intOf]; omega
    · obtain rfl : k = n := by omega
      have HE := Lib.hid (show xs.take k = xs from List.take_of_length_le (by rw [HL.out]; exact Nat.le_refl _))
      clear hlt
      go_wp2
      go_ret
      exact ⟨by rw [HE.out]; rfl, HB.out⟩

theorem opsLit4 (w : World) (a b c d e f g h : Int) : OpsAt (w.alloc (.cells #[.int .u8 a, .int .i32 b, .int .u8 c, .int .i32 d, .int .u8 e, .int .i32 f, .int .u8 g, .int .i32 h] 42)) (some ⟨w.heap.size, 0, none⟩) 4 [(a, b), (c, d), (e, f), (g, h)] :=
  ⟨rfl, fun _ => ⟨w.heap.size, 0, rfl, by simp, fun i hi => by
    match i, hi with
    | 0, _ => exact ⟨by go_simp, by go_simp⟩
    | 1, _ => exact ⟨by go_simp, by go_simp⟩
    | 2, _ => exact ⟨by go_simp, by go_simp⟩
    | 3, _ => exact ⟨by go_simp, by go_simp⟩⟩⟩
theorem readsLit4 (w : World) (k : IntKind) (t : TypeId) (a b c d : Int) : Reads k (w.alloc (.cells #[.int k a, .int k b, .int k c, .int k d] t)) (some ⟨w.heap.size, 0, none⟩) 4 [a, b, c, d] :=
  ⟨rfl, fun _ => ⟨w.heap.size, 0, rfl, by simp, fun i hi => by
    match i, hi with
    | 0, _ => go_simp
    | 1, _ => go_simp
    | 2, _ => go_simp
    | 3, _ => go_simp⟩⟩

set_option maxRecDepth 100000 in
set_option maxHeartbeats 4000000 in
theorem known (w : World) : Calls Try.prog 10 #[] w fun e w' => e = .returned (.bool true) ∧ Below w.heap.size w w' := by
  have hb1 : Below w.heap.size w (w.alloc (.cells #[.int .u8 1, .int .i32 0, .int .u8 2, .int .i32 0, .int .u8 3, .int .i32 0, .int .u8 3, .int .i32 0] 42)) := (Below.refl _ _).alloc (Nat.le_refl _) _
  have C := pairsAny _ 0 2 _ 4 4 _ (opsLit4 w 1 0 2 0 3 0 3 0) (by omega)
  have HB1 := Lib.hid hb1
  clear hb1
  go_enter Try.func10, Try.ntmps10
  go_wp2_with fail
  refine C.mono ?_
  clear C
  rintro e w2 ⟨gw, gc, rfl, r1, r2, _, _, _, b2⟩
  have ep : dpL (mostOf 2) (olds (haveOf 0 (mostOf 2))) (kindsOf [(1, 0), (2, 0), (3, 0), (3, 0)]) 4 = [-1, -1, 0, 1] := by decide +kernel
  have ec : dcL (mostOf 2) (olds (haveOf 0 (mostOf 2))) (kindsOf [(1, 0), (2, 0), (3, 0), (3, 0)]) 4 = [1, 1, 2, 2] := by decide +kernel
  rw [ep] at r1
  rw [ec] at r2
  have HB2 := Lib.hid (HB1.out.trans (b2.mono HB1.out.size))
  have HP := Lib.hid (r1.reads (n := 4) rfl)
  have HC := Lib.hid (r2.reads (n := 4) rfl)
  clear ep ec r1 r2 b2 HB1
  have hb3 : Below w2.heap.size w2 (w2.alloc (.cells #[.int .i64 (-1), .int .i64 (-1), .int .i64 0, .int .i64 1] 3)) := (Below.refl _ _).alloc (Nat.le_refl _) _
  have S := intsEq _ _ (some ⟨w2.heap.size, 0, none⟩) 4 4 4 _ (HP.out.keep hb3) (readsLit4 w2 .i64 3 (-1) (-1) 0 1) (by omega)
  have HB3 := Lib.hid (HB2.out.trans (hb3.mono HB2.out.size))
  have HC3 := Lib.hid (HC.out.keep hb3)
  clear hb3 HB2 HC HP
  go_wp2_with fail
  refine S.mono ?_
  clear S
  rintro e w4 ⟨rfl, b4⟩
  have HB4 := Lib.hid (HB3.out.trans (b4.mono HB3.out.size))
  have HC4 := Lib.hid (HC3.out.keep b4)
  clear b4 HB3 HC3
  have hb5 : Below w4.heap.size w4 (w4.alloc (.cells #[.int .u8 1, .int .u8 1, .int .u8 2, .int .u8 2] 5)) := (Below.refl _ _).alloc (Nat.le_refl _) _
  have S := codesEq _ _ (some ⟨w4.heap.size, 0, none⟩) 4 4 4 _ (HC4.out.keep hb5) (readsLit4 w4 .u8 5 1 1 2 2) (by omega)
  have HB5 := Lib.hid (HB4.out.trans (hb5.mono HB4.out.size))
  clear hb5 HB4 HC4
  go_wp2_with fail
  refine S.mono ?_
  clear S
  rintro e w6 ⟨rfl, b6⟩
  have HB6 := Lib.hid (HB5.out.trans (b6.mono HB5.out.size))
  clear b6 HB5
  have hb7 : Below w6.heap.size w6 (w6.alloc (.cells #[.int .u8 1, .int .i32 0, .int .u8 4, .int .i32 0] 42)) := (Below.refl _ _).alloc (Nat.le_refl _) _
  have S := sparedAny _ 0 2 _ 2 2 _ (opsLit2 w6 1 0 4 0) (by omega)
  rw [show metN (dpL (mostOf 2) (olds (haveOf 0 (mostOf 2))) (kindsOf [(1, 0), (4, 0)]) 2) = 1 by decide +kernel] at S
  have HB7 := Lib.hid (HB6.out.trans (hb7.mono HB6.out.size))
  clear hb7 HB6
  go_wp2_with fail
  refine S.mono ?_
  clear S
  rintro e w8 ⟨rfl, b8⟩
  have HB8 := Lib.hid (HB7.out.trans (b8.mono HB7.out.size))
  clear b8 HB7
  go_wp2
  go_ret
  exact ⟨rfl, HB8.out⟩

end Go.Proofs.Ytafocplahmfghaa
