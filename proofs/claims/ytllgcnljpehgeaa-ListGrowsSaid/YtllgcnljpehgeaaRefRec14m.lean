/-
  What the document's own records (package reaperref13) tell: Base, Open, Many, Nth, See; each makes new memory alone. Conditions: at most 1000 cells.
-/
import Derived.Test.YtllgcnljpehgeaaMemA14
import Derived.Test.YtllgcnljpehgeaaMRef13
namespace Go.Proofs.Ytllgcnljpehgeaa.M2
open Go.RowKit

set_option maxRecDepth 100000 in
theorem refBase (k : Int) (w : World) : Calls Try.prog 54 #[.int .i64 k] w fun e w' => e = .returned (.int .i64 (bs k)) ∧ w = w' := by
  rcases (show k < 0 ∨ 1000 < k ∨ (0 ≤ k ∧ k ≤ 1000) from by omega) with h | h | ⟨h, h'⟩
  · rw [bs_low h]
    go_enter Try.func54, Try.ntmps54
    go_wp2
    go_ret
    exact ⟨rfl, rfl⟩
  · rw [bs_high h]
    go_enter Try.func54, Try.ntmps54
    go_wp2
    go_ret
    exact ⟨rfl, rfl⟩
  · rw [bs_in h h']
    go_enter Try.func54, Try.ntmps54
    go_wp2
    go_ret
    exact ⟨rfl, rfl⟩

theorem refBaseIn {k : Int} (h0 : 0 ≤ k) (h1 : k ≤ 1000) (w : World) : Calls Try.prog 54 #[.int .i64 k] w fun e w' => e = .returned (.int .i64 (3 + 5 * k)) ∧ w = w' := by
  have C := refBase k w
  rw [bs_in h0 h1] at C
  exact C

section
variable {w : World} {B : Nat} {u : Value} {size : Int} {zs : List Int} {st : Int}

set_option maxRecDepth 100000 in
theorem refMany (h : w.ownsRow B 2 1 u zs.length (zs.map (Value.int .i64))) (hl : zs.length ≤ 1000) :
    Calls Try.prog 53 #[.agg #[.int .i64 size, u, .int .i64 st]] w fun e w' => e = .returned (.int .i64 (mn zs.length : Nat)) ∧ Below w.heap.size w w' := by
  obtain ⟨ao, cap, rfl⟩ := ownShape h
  clear h
  generalize zs.length = n at *
  by_cases hn : n < 3
  · have e0 : mn n = 0 := by unfold mn; omega
    rw [e0]
    clear e0
    go_enter Try.func53, Try.ntmps53
    go_wp2
    all_goals (go_ret; first | exact ⟨rfl, (Below.refl _ _).alloc (Nat.le_refl _) _⟩ | (exfalso; omega) | exact ⟨by simp <;> omega, (Below.refl _ _).alloc (Nat.le_refl _) _⟩)
  · have e0 : ((mn n : Nat) : Int) = ((n : Int) - 3) / 5 := by unfold mn; omega
    rw [e0]
    clear e0
    go_enter Try.func53, Try.ntmps53
    go_wp2
    all_goals (go_ret; first | exact ⟨rfl, (Below.refl _ _).alloc (Nat.le_refl _) _⟩ | (exfalso; omega) | exact ⟨by simp <;> omega, (Below.refl _ _).alloc (Nat.le_refl _) _⟩)

/-- What holds at each round's head. -/
def RefNthRel (w : World) (B : Nat) (u : Value) (size : Int) (zs : List Int) (st : Int) (T : Nat) (i : Value) (wr : World) : Prop :=
  ∃ j : Nat, j ≤ T ∧ i = .int .i64 j ∧ wr.ownsRow B 2 1 u zs.length (zs.map (Value.int .i64)) ∧ Boxed wr w.heap.size (.int .i64 size) u (.int .i64 st) ∧ Below w.heap.size w wr

set_option maxRecDepth 100000 in
set_option maxHeartbeats 1600000 in
theorem refNthIn (h : w.ownsRow B 2 1 u zs.length (zs.map (Value.int .i64))) (hl : zs.length ≤ 1000) (k : Nat) (hk : k < mn zs.length) :
    Calls Try.prog 64 #[.agg #[.int .i64 size, u, .int .i64 st], .int .i64 (3 + 5 * (k : Int))] w fun e w' => e = .returned (.tuple #[.int .i64 (k : Int), .bool true]) ∧ Below w.heap.size w w' := by
  obtain ⟨ao, cap, rfl⟩ := ownShape h
  have hM : mn zs.length ≤ 200 := by unfold mn; omega
  obtain ⟨M, hMe⟩ : ∃ M, mn zs.length = M := ⟨_, rfl⟩
  have HQ := Lib.hid (fun (wr : World) (h : wr.ownsRow B 2 1 (.slice ao zs.length cap) zs.length (zs.map (Value.int .i64))) => refMany (size := size) (st := st) h hl)
  rw [hMe] at HQ hM hk
  obtain ⟨a, ha⟩ : ∃ a : Int, a = 3 + 5 * (k : Int) := ⟨_, rfl⟩
  rw [← ha]
  have HA := Lib.hid ha
  clear ha
  clear hMe hl
  go_enter Try.func64, Try.ntmps64
  go_upto_region 1 with (fail)
  generalize hW : w.alloc (.cells #[.int .i64 size, .slice ao zs.length cap, .int .i64 st] 33) = W
  have HX := Lib.hid (show Boxed W w.heap.size (.int .i64 size) (.slice ao zs.length cap) (.int .i64 st) by subst hW; exact Boxed.new _ _ _ _)
  have HB := Lib.hid (show Below w.heap.size w W by subst hW; exact (Below.refl _ _).alloc (Nat.le_refl _) _)
  have HO := Lib.hid (own_keep h HB.out)
  clear hW h
  go_wp2
  go_loopw [6] (fun i wr => RefNthRel w B (.slice ao zs.length cap) size zs st k i wr) (fun i _ => 300 - (intOf i).toNat)
  case atStart => exact ⟨0, by omega, rfl, HO.out, HX.out, HB.out⟩
  case round =>
    obtain ⟨j, hj, rfl, hO, hX, hB⟩ := hrel
    have HOr := Lib.hid hO
    have HXr := Lib.hid hX
    have HBr := Lib.hid hB
    have c0 := hX.c0
    have c1 := hX.c1
    have c2 := hX.c2
    have C := HQ.out wr hO
    clear hO hX hB HO HX HB
    go_wp2_with fail
    refine C.mono ?_
    clear C c0 c1 c2
    rintro e w3 ⟨rfl, b3⟩
    have HO3 := Lib.hid (own_keep HOr.out b3)
    have HX3 := Lib.hid (HXr.out.keep b3)
    have HB3 := Lib.hid (HBr.out.trans (b3.mono HBr.out.size))
    clear b3 HOr HXr HBr
    by_cases hjk : j = k
    · subst hjk
      have hm : (j : Int) < M := by omega
      go_wp2_with fail
      refine (refBaseIn (k := (j : Int)) (by omega) (by omega) w3).mono ?_
      rintro e w' ⟨rfl, rfl⟩
      rw [← HA.out]
      go_wp2
      go_ret2
      exact ⟨rfl, HB3.out⟩
    · have hm : (j : Int) < M := by omega
      have hne : ((3 + 5 * (j : Int)) == a) = false := by rw [HA.out]; simp; omega
      go_wp2_with fail
      refine (refBaseIn (k := (j : Int)) (by omega) (by omega) w3).mono ?_
      rintro e w' ⟨rfl, rfl⟩
      go_wp2
      go_roundw
      case rel => exact ⟨j + 1, by omega, by go_num, HO3.out, HX3.out, HB3.out⟩
      case measure => simp [intOf]; omega

set_option maxRecDepth 100000 in
set_option maxHeartbeats 1600000 in
theorem refNthOut (h : w.ownsRow B 2 1 u zs.length (zs.map (Value.int .i64))) (hl : zs.length ≤ 1000) (a : Int) (ha : ∀ k : Nat, k < mn zs.length → a ≠ 3 + 5 * (k : Int)) :
    Calls Try.prog 64 #[.agg #[.int .i64 size, u, .int .i64 st], .int .i64 a] w fun e w' => e = .returned (.tuple #[.int .i64 0, .bool false]) ∧ Below w.heap.size w w' := by
  obtain ⟨ao, cap, rfl⟩ := ownShape h
  have hM : mn zs.length ≤ 200 := by unfold mn; omega
  obtain ⟨M, hMe⟩ : ∃ M, mn zs.length = M := ⟨_, rfl⟩
  have HQ := Lib.hid (fun (wr : World) (h : wr.ownsRow B 2 1 (.slice ao zs.length cap) zs.length (zs.map (Value.int .i64))) => refMany (size := size) (st := st) h hl)
  rw [hMe] at HQ hM ha
  have HA := Lib.hid ha
  clear ha
  clear hMe hl
  go_enter Try.func64, Try.ntmps64
  go_upto_region 1 with (fail)
  generalize hW : w.alloc (.cells #[.int .i64 size, .slice ao zs.length cap, .int .i64 st] 33) = W
  have HX := Lib.hid (show Boxed W w.heap.size (.int .i64 size) (.slice ao zs.length cap) (.int .i64 st) by subst hW; exact Boxed.new _ _ _ _)
  have HB := Lib.hid (show Below w.heap.size w W by subst hW; exact (Below.refl _ _).alloc (Nat.le_refl _) _)
  have HO := Lib.hid (own_keep h HB.out)
  clear hW h
  go_wp2
  go_loopw [6] (fun i wr => RefNthRel w B (.slice ao zs.length cap) size zs st M i wr) (fun i _ => 300 - (intOf i).toNat)
  case atStart => exact ⟨0, by omega, rfl, HO.out, HX.out, HB.out⟩
  case round =>
    obtain ⟨j, hj, rfl, hO, hX, hB⟩ := hrel
    have HOr := Lib.hid hO
    have HXr := Lib.hid hX
    have HBr := Lib.hid hB
    have c0 := hX.c0
    have c1 := hX.c1
    have c2 := hX.c2
    have C := HQ.out wr hO
    clear hO hX hB HO HX HB
    go_wp2_with fail
    refine C.mono ?_
    clear C c0 c1 c2
    rintro e w3 ⟨rfl, b3⟩
    have HO3 := Lib.hid (own_keep HOr.out b3)
    have HX3 := Lib.hid (HXr.out.keep b3)
    have HB3 := Lib.hid (HBr.out.trans (b3.mono HBr.out.size))
    clear b3 HOr HXr HBr
    by_cases hjk : j < M
    · have hm : (j : Int) < M := by omega
      have hne : ((3 + 5 * (j : Int)) == a) = false := by have := HA.out j hjk; simp; omega
      go_wp2_with fail
      refine (refBaseIn (k := (j : Int)) (by omega) (by omega) w3).mono ?_
      rintro e w' ⟨rfl, rfl⟩
      go_wp2
      go_roundw
      case rel => exact ⟨j + 1, by omega, by go_num, HO3.out, HX3.out, HB3.out⟩
      case measure => simp [intOf]; omega
    · have hm : ¬ (j : Int) < M := by omega
      go_wp2
      go_ret2
      exact ⟨rfl, HB3.out⟩

end

end Go.Proofs.Ytllgcnljpehgeaa.M2
