/-
  A record, a result, equals itself; the word of what is told tells it. Conditions: none.
-/
import Derived.Test.YteckfbghldlkgaaKnown13m
namespace Go.Proofs.Yteckfbghldlkgaa.M2
open Go.RowKit

theorem eqRes (a b : Int) (w : World) : (Op.equalIn 10000 50 (.agg #[.int .u8 a, .int .i32 b]) (.agg #[.int .u8 a, .int .i32 b])).run Try.prog w = .ok true w := by
  have hS : Try.prog.underlying 50 = some (.struct (Try.prog.fieldsOf 50)) := by kernel_rfl
  have hp : Try.prog.stoodInHeld 50 = false := by kernel_rfl
  rw [show (10000 : Nat) = 9998 + 1 + 1 from rfl, run_equalIn_agg w (9998 + 1) 50 _ _ hS hp]
  have u5 := Try.underlying5
  have u21 := Try.underlying21
  have a5 := Try.isAgg5
  have z5 := Try.sizeOf5
  have a21 := Try.isAgg21
  have z21 := Try.sizeOf21
  simp only [Program.fieldsOf, Try.underlying50]
  go_simp

theorem eqRec (a b c d e : Int) (w : World) : (Op.equalIn 10000 45 (.agg #[.int .i64 a, .int .i64 b, .int .i64 c, .int .i64 d, .int .i64 e]) (.agg #[.int .i64 a, .int .i64 b, .int .i64 c, .int .i64 d, .int .i64 e])).run Try.prog w = .ok true w := by
  have hS : Try.prog.underlying 45 = some (.struct (Try.prog.fieldsOf 45)) := by kernel_rfl
  have hp : Try.prog.stoodInHeld 45 = false := by kernel_rfl
  rw [show (10000 : Nat) = 9998 + 1 + 1 from rfl, run_equalIn_agg w (9998 + 1) 45 _ _ hS hp]
  have u2 := Try.underlying2
  have a2 := Try.isAgg2
  have z2 := Try.sizeOf2
  simp only [Program.fieldsOf, Try.underlying45]
  go_simp

/-- A result in a block of its own. -/
def RB (w : World) (g : Nat) (c x : Int) : Prop := w.heap[g]? = some (.cells #[.int .u8 c, .int .i32 x] 50 (0, 0))
theorem RB.c0 {w : World} {g : Nat} {c x : Int} (h : RB w g c x) : w.cell? ⟨g, 0, none⟩ = some (.int .u8 c) := by unfold RB at h; simp [World.cell?, h]
theorem RB.c1 {w : World} {g : Nat} {c x : Int} (h : RB w g c x) : w.cell? ⟨g, 1, none⟩ = some (.int .i32 x) := by unfold RB at h; simp [World.cell?, h]
theorem RB.lt {w : World} {g : Nat} {c x : Int} (h : RB w g c x) : g < w.heap.size := lt_of_block h
theorem RB.keep {w w' : World} {g : Nat} {c x : Int} (h : RB w g c x) (hb : Below w.heap.size w w') : RB w' g c x := (hb.block g h.lt).trans h
theorem RB.new (w : World) (c x : Int) : RB (w.alloc (.cells #[.int .u8 c, .int .i32 x] 50)) w.heap.size c x := heap_alloc_new w _
theorem RB.alloc {w : World} {g : Nat} {c x : Int} (h : RB w g c x) (o : Obj) : RB (w.alloc o) g c x := (Below.heap_alloc _ _ _ h.lt).trans h

end Go.Proofs.Yteckfbghldlkgaa.M2
