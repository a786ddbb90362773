/-
  The walk of WordNone: for every int64 and uint32 it answers true and leaves all old memory as it was.
-/
import Derived.Test.YtmmnmkcjgadhmaaWordKnown
namespace Go.Proofs.Ytmmnmkcjgadhmaa
open Go.RowKit

set_option maxRecDepth 100000 in
set_option maxHeartbeats 1000000 in
theorem noneWalk (a n : Int) (_ : -9223372036854775808 ≤ a) (_ : a ≤ 9223372036854775807) (n0 : 0 ≤ n) (n1 : n ≤ 4294967295) (w : World) :
    Calls Try.prog 7 #[.int .i64 a, .int .u32 n] w fun e w' => e = .returned (.bool true) ∧ Fresh w w' := by
  go_enter Try.func7, Try.ntmps7
  go_wp2_with fail
  go_loopw [6] (fun i wr => ∃ k : Nat, k ≤ 3 ∧ i = .int .i64 k ∧ wr.cell? ⟨w.heap.size, 0, none⟩ = some (.int .i64 (-n)) ∧ wr.cell? ⟨w.heap.size, 1, none⟩ = some (.int .i64 (1099511627777 + n)) ∧
      wr.cell? ⟨w.heap.size, 2, none⟩ = some (.int .i64 a) ∧ Fresh w wr) (fun i _ => 3 - (intOf i).toNat)
  case atStart => exact ⟨0, by omega, rfl, by simp, by simp, by simp, (Fresh.refl _).alloc _ _⟩
  case round =>
    obtain ⟨k, hk, rfl, c0, c1, c2, hF⟩ := hrel
    have F := Lib.hid hF
    have C := Lib.hid (And.intro c0 (And.intro c1 c2))
    clear hF c0 c1 c2
    by_cases hlt : k < 3
    · obtain ⟨x, hx⟩ : ∃ x, wr.cell? ⟨w.heap.size, k, none⟩ = some (.int .i64 x) := by
        match k, hlt with
        | 0, _ => exact ⟨_, C.out.1⟩
        | 1, _ => exact ⟨_, C.out.2.1⟩
        | 2, _ => exact ⟨_, C.out.2.2⟩
      by_cases hin : 1 ≤ x ∧ x ≤ 1099511627776
      · obtain ⟨h0, h1⟩ := hin
        go_wp2_with fail
        refine (ofOp _ h0 h1 _).mono ?_
        rintro e w1 ⟨rfl, f1⟩
        have x1 := ((Fresh.refl w1).alloc #[.int .u8 (kd x), .int .i32 (vl x)] 23).keep (f1.keep hx)
        have F1 := Lib.hid f1
        clear f1 hx
        go_wp2_with fail
        refine (ofRes _ h0 h1 _).mono ?_
        rintro e w2 ⟨rfl, f2⟩
        have g2 := ((Fresh.refl w1).alloc #[.int .u8 (kd x), .int .i32 (vl x)] 23).trans f2
        have p2 : w2.cell? ⟨w1.heap.size, 0, none⟩ = some (.int .u8 (kd x)) := f2.keep (by simp)
        have q2 : w2.cell? ⟨w1.heap.size, 1, none⟩ = some (.int .i32 (vl x)) := f2.keep (by simp)
        have g3 := g2.alloc #[.int .u8 (kd x), .int .i32 (vl x)] 25
        have x3 := ((Fresh.refl w2).alloc #[.int .u8 (kd x), .int .i32 (vl x)] 25).keep (f2.keep x1)
        have p3 := ((Fresh.refl w2).alloc #[.int .u8 (kd x), .int .i32 (vl x)] 25).keep p2
        have q3 := ((Fresh.refl w2).alloc #[.int .u8 (kd x), .int .i32 (vl x)] 25).keep q2
        have F3 := Lib.hid (F1.out.trans g3)
        clear f2 g2 g3 F1 x1 p2 q2
        go_wp2
        go_roundw
        case rel => exact ⟨k + 1, by omega, by go_num, F3.out.keep C.out.1, F3.out.keep C.out.2.1, F3.out.keep C.out.2.2, F.out.trans F3.out⟩
        case measure => simp [intOf]; omega

      · have H : Hid (x < 1 ∨ 1099511627776 < x) := Lib.hid (by omega)
        have B1 : (decide (1 ≤ x) && decide (x ≤ 1099511627776)) = false := by rw [← Bool.decide_and]; exact decide_eq_false hin
        go_wp2_with fail
        refine (ofOpNo _ H.out _).mono ?_
        rintro e w1 ⟨rfl, f1⟩
        have x1 := ((Fresh.refl w1).alloc #[.int .u8 0, .int .i32 0] 23).keep (f1.keep hx)
        have F1 := Lib.hid f1
        clear f1 hx
        go_wp2_with fail
        refine (ofResNo _ H.out _).mono ?_
        rintro e w2 ⟨rfl, f2⟩
        have g2 := ((Fresh.refl w1).alloc #[.int .u8 0, .int .i32 0] 23).trans f2
        have p2 : w2.cell? ⟨w1.heap.size, 0, none⟩ = some (.int .u8 0) := f2.keep (by simp)
        have q2 : w2.cell? ⟨w1.heap.size, 1, none⟩ = some (.int .i32 0) := f2.keep (by simp)
        have g3 := g2.alloc #[.int .u8 0, .int .i32 0] 25
        have x3 := ((Fresh.refl w2).alloc #[.int .u8 0, .int .i32 0] 25).keep (f2.keep x1)
        have p3 := ((Fresh.refl w2).alloc #[.int .u8 0, .int .i32 0] 25).keep p2
        have q3 := ((Fresh.refl w2).alloc #[.int .u8 0, .int .i32 0] 25).keep q2
        have F3 := Lib.hid (F1.out.trans g3)
        clear f2 g2 g3 F1 x1 p2 q2
        go_wp2
        all_goals
          go_roundw
          case rel => exact ⟨k + 1, by omega, by go_num, F3.out.keep C.out.1, F3.out.keep C.out.2.1, F3.out.keep C.out.2.2, F.out.trans F3.out⟩
          case measure => simp [intOf]; omega
    · have hge : ¬ ((k : Int) < 3) := by omega
      go_wp2_with fail
      refine (known _).mono ?_
      rintro e w1 ⟨rfl, f1⟩
      have F1 := Lib.hid (F.out.trans f1)
      clear f1 F
      go_wp2
      go_ret
      exact ⟨by simp [n0], F1.out⟩

end Go.Proofs.Ytmmnmkcjgadhmaa
