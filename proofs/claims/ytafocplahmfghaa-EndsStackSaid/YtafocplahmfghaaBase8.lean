/-
  What texts of several stages share: how many there may be, boxes of a code and a value, what an operation of a deque tells, equality of lists. Conditions: none.
-/
import Derived.Test.YtafocplahmfghaaTail
namespace Go.Proofs.Ytafocplahmfghaa
open Go.RowKit

theorem infoI32 : (Try.prog.info? 21).map (fun i => (i.zero, i.size, i.bytes)) = some (some (.int .i32 0), 1, 4) := by kernel_rfl
theorem sizeI32 : (Try.prog.info? 21).map (·.size) = some 1 := by kernel_rfl

/-- How many there may be. -/
def mostOf (n : Int) : Int := if n < 0 then 0 else if 1000 < n then 1000 else n
theorem mostOf_in (n : Int) : 0 ≤ mostOf n ∧ mostOf n ≤ 1000 := by unfold mostOf; split <;> (try split) <;> omega
theorem mostOf_self (n : Int) (h0 : 0 ≤ n) (h1 : n ≤ 1000) : mostOf n = n := by unfold mostOf; rw [if_neg (by omega), if_neg (by omega)]

/-- A code and a value in a block of their own. -/
def RBox (w : World) (g : Nat) (c x : Int) : Prop := w.heap[g]? = some (.cells #[.int .u8 c, .int .i32 x] 40 (0, 0))
section
variable {w : World} {g : Nat} {c x : Int}
theorem RBox.c0 (h : RBox w g c x) : w.cell? ⟨g, 0, none⟩ = some (.int .u8 c) := by unfold RBox at h; simp [World.cell?, h]
theorem RBox.c1 (h : RBox w g c x) : w.cell? ⟨g, 1, none⟩ = some (.int .i32 x) := by unfold RBox at h; simp [World.cell?, h]
theorem RBox.f (h : RBox w g c x) (j : Nat) : w.frozen? ⟨g, j, none⟩ = false := by unfold RBox at h; simp [World.frozen?, h]
theorem RBox.lt (h : RBox w g c x) : g < w.heap.size := lt_of_block h
theorem RBox.set2 (h : RBox w g c x) (c' x' : Int) : RBox ((w.setCell ⟨g, 0, none⟩ (.int .u8 c')).setCell ⟨g, 1, none⟩ (.int .i32 x')) g c' x' := by
  unfold RBox at h ⊢
  rw [heap_setCell_same _ g 1 _ _ _ (heap_setCell_same w g 0 _ _ _ h)]
  rfl
end

section
variable {F : Nat → Prop} {a b : World}
theorem RBox.keep {g : Nat} {c x : Int} (h : RBox a g c x) (hb : Below a.heap.size a b) : RBox b g c x := (hb.block g h.lt).trans h
theorem RBox.off {g : Nat} {c x : Int} (h : RBox a g c x) (hn : ¬ F g) (hw : Wrote F a b) : RBox b g c x := (hw.block g h.lt hn).trans h
theorem RBox.new (w : World) (c x : Int) : RBox (w.alloc (.cells #[.int .u8 c, .int .i32 x] 40)) w.heap.size c x := heap_alloc_new w _

end

theorem Later.not {w : World} {F F' : Nat → Prop} {g : Nat} (l : Later F F' w) (hn : ¬ F g) (hg : g < w.heap.size) : ¬ F' g := fun e => by
  rcases l g e with h | h
  · exact hn h
  · omega

/-- What an operation makes of the items. -/
def dqL (most : Int) (zs : List Int) (k x : Int) : List Int :=
  if k = 1 then (if (zs.length : Int) < most then x :: zs else zs) else if k = 2 then (if (zs.length : Int) < most then zs ++ [x] else zs) else if k = 3 then zs.tail else if k = 4 then zs.dropLast else zs
/-- What it is told: a code. -/
def dqC (most : Int) (zs : List Int) (k : Int) : Int :=
  if k = 1 ∨ k = 2 then (if (zs.length : Int) < most then 1 else 3) else if k = 3 ∨ k = 4 then (if zs = [] then 4 else 2) else 5
/-- What it is told: a value. -/
def dqV (zs : List Int) (k : Int) : Int := if k = 3 then zs.headD 0 else if k = 4 then zs.getLastD 0 else 0

/-- A struct equals itself. -/
theorem eqSelf (a b : Int) (w : World) : (Op.equalIn 10000 40 (.agg #[.int .u8 a, .int .i32 b]) (.agg #[.int .u8 a, .int .i32 b])).run Try.prog w = .ok true w := by
  have hS : Try.prog.underlying 40 = some (.struct (Try.prog.fieldsOf 40)) := by kernel_rfl
  have hp : Try.prog.stoodInHeld 40 = false := by kernel_rfl
  rw [show (10000 : Nat) = 9998 + 1 + 1 from rfl, run_equalIn_agg w (9998 + 1) 40 _ _ hS hp]
  have u5 := Try.underlying5
  have u21 := Try.underlying21
  have a5 := Try.isAgg5
  have z5 := Try.sizeOf5
  have a21 := Try.isAgg21
  have z21 := Try.sizeOf21
  simp only [Program.fieldsOf, Try.underlying40]
  go_simp

set_option maxHeartbeats 1600000 in
theorem sameEq (w : World) (a b : Option Addr) (n c d : Nat) (zs : List Int) (ha : Reads .i32 w a n zs) (hb : Reads .i32 w b n zs) (hl : n ≤ 1000) :
    Calls Try.prog 25 #[.slice a n c, .slice b n d] w fun e w' => e = .returned (.bool true) ∧ Below w.heap.size w w' := by
  have HA := Lib.hid ha
  have HB := Lib.hid hb
  clear ha hb
  go_enter Try.func25, Try.ntmps25
  go_wp2
  go_loopw [5] (fun i wr => ∃ k : Nat, k ≤ n ∧ i = .int .i64 k ∧ Below w.heap.size w wr) (fun i _ => n - (intOf i).toNat)
  case atStart => exact ⟨0, Nat.zero_le _, rfl, Below.refl _ _⟩
  case round =>
    obtain ⟨k, hk, rfl, hbe⟩ := hrel
    have HE := Lib.hid hbe
    by_cases hlt : k < n
    · obtain ⟨b1, o1, rfl, l1, h1⟩ := (HA.out.keep hbe).2 (by omega)
      obtain ⟨b2, o2, rfl, l2, h2⟩ := (HB.out.keep hbe).2 (by omega)
      have c1 := h1 k hlt
      have c2 := h2 k hlt
      have i0 : (k : Int) < n := by omega
      clear h1 h2 hbe
      generalize zs.getD k 0 = e1 at *
      go_wp2
      go_quiet (fail)
      go_wp2
      go_roundw
      case rel => exact ⟨k + 1, by omega, by go_num, below_drewN HE.out _⟩
      case measure => simp [intOf]; omega
    · clear hbe
      go_wp2
      go_ret
      exact ⟨rfl, HE.out⟩

end Go.Proofs.Ytafocplahmfghaa
