/-
  cmp.Compare at int32, and the comparison that Order hands to the sort. Conditions: operations that lie in memory, a variable that holds them.
-/
import Derived.Test.YtejnadokjnfagaaIntRow
import Derived.Test.YtejnadokjnfagaaArgs8
namespace Go.Proofs.Ytejnadokjnfagaa
open Go.RowKit

theorem isNaNAny (x : Int) (w : World) : Calls Try.prog 42 #[.int .i32 x] w fun e w' => e = .returned (.bool false) ∧ w = w' := by
  go_enter Try.func42, Try.ntmps42
  go_wp2
  go_ret
  exact ⟨rfl, rfl⟩

set_option maxHeartbeats 1600000 in
theorem compareAny (x y : Int) (w : World) : Calls Try.prog 32 #[.int .i32 x, .int .i32 y] w fun e w' => e = .returned (.int .i64 (cmp3 x y)) ∧ w' = w := by
  rcases (show x < y ∨ y < x ∨ x = y from by omega) with h | h | h
  · have HE := Lib.hid (show cmp3 x y = -1 by unfold cmp3; rw [if_pos h])
    go_enter Try.func32, Try.ntmps32
    go_wp2_with (go_at_call 42; refine (isNaNAny _ _).mono ?_; rintro e w' ⟨rfl, rfl⟩)
    go_ret
    exact ⟨by rw [HE.out]; rfl, rfl⟩
  · have HE := Lib.hid (show cmp3 x y = 1 by unfold cmp3; rw [if_neg (by omega), if_pos h])
    have h2 : ¬ x < y := by omega
    go_enter Try.func32, Try.ntmps32
    go_wp2_with (go_at_call 42; refine (isNaNAny _ _).mono ?_; rintro e w' ⟨rfl, rfl⟩)
    go_ret
    exact ⟨by rw [HE.out]; rfl, rfl⟩
  · subst h
    have HE := Lib.hid (show cmp3 x x = 0 by unfold cmp3; rw [if_neg (by omega), if_neg (by omega)])
    go_enter Try.func32, Try.ntmps32
    go_wp2_with (go_at_call 42; refine (isNaNAny _ _).mono ?_; rintro e w' ⟨rfl, rfl⟩)
    go_ret
    exact ⟨by rw [HE.out]; rfl, rfl⟩

/-- The key of an operation's place: its value. -/
def keyOf (os : List (Int × Int)) (i : Int) : Int := (os.getD i.toNat (0, 0)).2

set_option maxHeartbeats 1600000 in
theorem closAny (os : List (Int × Int)) (W : World) (B : Nat) (ao : Option Addr) (n cap : Nat) (a b : Int) (hB : W.cell? ⟨B, 0, none⟩ = some (.slice ao n cap)) (ho : OpsAt W ao n os) (a0 : 0 ≤ a) (a1 : a < n) (b0 : 0 ≤ b) (b1 : b < n) :
    Calls Try.prog 31 #[.int .i64 a, .int .i64 b, .pointer (some ⟨B, 0, none⟩)] W fun e w' => e = .returned (.int .i64 (cmp3 (keyOf os a) (keyOf os b))) ∧ ∃ q, w' = W.drewN q := by
  obtain ⟨i, hi⟩ : ∃ i, a.toNat = i := ⟨_, rfl⟩
  obtain ⟨j, hj⟩ : ∃ j, b.toNat = j := ⟨_, rfl⟩
  obtain ⟨g, off, rfl, gl, hc⟩ := ho.2 (by omega)
  have c1 := (hc i (by omega)).2
  have c2 := (hc j (by omega)).2
  unfold keyOf
  rw [hi, hj]
  clear hc ho
  generalize (os.getD i (0, 0)).2 = x at *
  generalize (os.getD j (0, 0)).2 = y at *
  go_enter Try.func31, Try.ntmps31
  go_wp2_with fail
  go_quiet ((go_at_call 32; exact Calls.quiet_of_same (compareAny _ _ _)))
  go_wp2
  go_ret
  exact ⟨rfl, _, rfl⟩

end Go.Proofs.Ytejnadokjnfagaa
