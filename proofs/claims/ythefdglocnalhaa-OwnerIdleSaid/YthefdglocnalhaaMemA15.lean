/-
  The chapter's example (reaperlaw13.known) is told; and a call on a memory of records where only their number is looked at. Conditions: none. A record, a result, equals itself; the word of what is told tells it. Conditions: none. What a call on a memory leaves of all blocks that are neither a memory nor a list of int64: it is as it was. Conditions: a memory as Mem1 says; steps below a million. A memory beside a list of int64 of one's own that is not the memory's own row; numbers set one behind the other. Conditions: a memory as Mem says.
-/
import Derived.Test.YthefdglocnalhaaRecA15
import Derived.Test.YthefdglocnalhaaMCel13
namespace Go.Proofs.Ythefdglocnalhaa.M2
open Go.RowKit

section
variable {w : World} {B p n : Nat} {size st : Int}
theorem manyL (h : MemL w B p size n st) : Calls Try.prog 78 #[.pointer (some ⟨p, 0, none⟩)] w fun e w' => e = .returned (.int .i64 (mn n : Nat)) ∧ w = w' := by
  obtain ⟨zs, rfl, m⟩ := h
  exact many1 m
theorem nthLin (h : MemL w B p size n st) (k : Nat) (hk : k < mn n) : Calls Try.prog 53 #[.pointer (some ⟨p, 0, none⟩), .int .i64 (3 + 5 * (k : Int))] w fun e w' => e = .returned (.tuple #[.int .i64 k, .bool true]) ∧ w = w' := by
  obtain ⟨zs, rfl, m⟩ := h
  exact nthIn m k hk
theorem MemL.keep {w' : World} (h : MemL w B p size n st) (b : Below w.heap.size w w') : MemL w' B p size n st := by
  obtain ⟨zs, rfl, m⟩ := h
  exact ⟨zs, rfl, m.keep b⟩
end

end Go.Proofs.Ythefdglocnalhaa.M2
namespace Go.Proofs.Ythefdglocnalhaa.M2
open Go.RowKit

theorem eqRes (a b : Int) (w : World) : (Op.equalIn 10000 49 (.agg #[.int .u8 a, .int .i32 b]) (.agg #[.int .u8 a, .int .i32 b])).run Try.prog w = .ok true w := by
  have hS : Try.prog.underlying 49 = some (.struct (Try.prog.fieldsOf 49)) := by kernel_rfl
  have hp : Try.prog.stoodInHeld 49 = false := by kernel_rfl
  rw [show (10000 : Nat) = 9998 + 1 + 1 from rfl, run_equalIn_agg w (9998 + 1) 49 _ _ hS hp]
  have u5 := Try.underlying5
  have u21 := Try.underlying21
  have a5 := Try.isAgg5
  have z5 := Try.sizeOf5
  have a21 := Try.isAgg21
  have z21 := Try.sizeOf21
  simp only [Program.fieldsOf, Try.underlying49]
  go_simp

theorem eqRec (a b c d e : Int) (w : World) : (Op.equalIn 10000 61 (.agg #[.int .i64 a, .int .i64 b, .int .i64 c, .int .i64 d, .int .i64 e]) (.agg #[.int .i64 a, .int .i64 b, .int .i64 c, .int .i64 d, .int .i64 e])).run Try.prog w = .ok true w := by
  have hS : Try.prog.underlying 61 = some (.struct (Try.prog.fieldsOf 61)) := by kernel_rfl
  have hp : Try.prog.stoodInHeld 61 = false := by kernel_rfl
  rw [show (10000 : Nat) = 9998 + 1 + 1 from rfl, run_equalIn_agg w (9998 + 1) 61 _ _ hS hp]
  have u2 := Try.underlying2
  have a2 := Try.isAgg2
  have z2 := Try.sizeOf2
  simp only [Program.fieldsOf, Try.underlying61]
  go_simp

/-- A result in a block of its own. -/
def RB (w : World) (g : Nat) (c x : Int) : Prop := w.heap[g]? = some (.cells #[.int .u8 c, .int .i32 x] 49 (0, 0))
theorem RB.c0 {w : World} {g : Nat} {c x : Int} (h : RB w g c x) : w.cell? ⟨g, 0, none⟩ = some (.int .u8 c) := by unfold RB at h; simp [World.cell?, h]
theorem RB.c1 {w : World} {g : Nat} {c x : Int} (h : RB w g c x) : w.cell? ⟨g, 1, none⟩ = some (.int .i32 x) := by unfold RB at h; simp [World.cell?, h]
theorem RB.lt {w : World} {g : Nat} {c x : Int} (h : RB w g c x) : g < w.heap.size := lt_of_block h
theorem RB.keep {w w' : World} {g : Nat} {c x : Int} (h : RB w g c x) (hb : Below w.heap.size w w') : RB w' g c x := (hb.block g h.lt).trans h
theorem RB.new (w : World) (c x : Int) : RB (w.alloc (.cells #[.int .u8 c, .int .i32 x] 49)) w.heap.size c x := heap_alloc_new w _
theorem RB.alloc {w : World} {g : Nat} {c x : Int} (h : RB w g c x) (o : Obj) : RB (w.alloc o) g c x := (Below.heap_alloc _ _ _ h.lt).trans h

end Go.Proofs.Ythefdglocnalhaa.M2
namespace Go.Proofs.Ythefdglocnalhaa.M2
open Go.RowKit

/-- Whatever is neither a memory nor a list of int64 is as it was. -/
def Kept (w w' : World) : Prop := ∀ (N : Nat) (cs : Array Value) (t : TypeId), w.heap[N]? = some (Obj.cells cs t (0, 0)) → t ≠ 2 → t ≠ 102 → w'.heap[N]? = some (Obj.cells cs t (0, 0))

theorem Kept.refl (w : World) : Kept w w := fun _ _ _ h _ _ => h
theorem Kept.trans {a b c : World} (h : Kept a b) (k : Kept b c) : Kept a c := fun N cs t e h1 h2 => k N cs t (h N cs t e h1 h2) h1 h2
theorem keptOf {a b : World} (h : Below a.heap.size a b) : Kept a b := fun N _ _ e _ _ => (h.block N (lt_of_block e)).trans e

theorem Did.kept {w w' : World} {B p : Nat} {v : Value} {size size' : Int} {zs zs' : List Int} {st st' : Int} (m : Mem w B p v size zs st) (d : Did B p v size' zs' st' w w') : Kept w w' := by
  obtain ⟨v', _, wr, _⟩ := d
  intro N cs t e h1 h2
  refine (wr.block N (lt_of_block e) ?_ ?_).trans e
  · rintro rfl
    have := m.block
    rw [e] at this
    simp only [Option.some.injEq, Obj.cells.injEq] at this
    exact h2 this.2.1
  · intro hv
    rcases m.own.2 with ⟨rfl, _⟩ | ⟨g, cap, cur, rfl, _, hg, _⟩
    · simp [Value.ownBlock] at hv
    · simp only [Value.ownBlock, Option.some.injEq] at hv
      subst hv
      rw [e] at hg
      simp only [Option.some.injEq, Obj.cells.injEq] at hg
      exact h1 hg.2.1

theorem RB.off {w w' : World} {g : Nat} {c x : Int} (h : RB w g c x) (k : Kept w w') : RB w' g c x := k _ _ _ h (by decide) (by decide)
theorem B5.off {w w' : World} {N : Nat} {t : TypeId} {a b c d e : Int} (h : B5 w N t a b c d e) (h1 : t ≠ 2) (h2 : t ≠ 102) (k : Kept w w') : B5 w' N t a b c d e := k _ _ _ h h1 h2

section
variable {w : World} {B p : Nat} {size : Int} {zs : List Int} {st : Int}
theorem storeK (h : Mem1 w B p size zs st) (a x : Int) (h0 : 0 ≤ a) (h1 : a < zs.length) (k0 : 0 ≤ st) (k1 : st < 1000000) :
    Calls Try.prog 19 #[.pointer (some ⟨p, 0, none⟩), .int .i64 a, .int .i64 x] w fun e w' => e = .returned (.int .u16 0) ∧ Mem1 w' B p size (zs.set a.toNat x) (st + 1) ∧ Below B w w' ∧ Kept w w' := by
  obtain ⟨v, m⟩ := h
  exact (storeIn m a x h0 h1 k0 k1).mono fun e w' ⟨he, d⟩ => ⟨he, (d.one m).1, (d.one m).2, d.kept m⟩

theorem allocK (h : Mem1 w B p size zs st) (n : Int) (h0 : 0 ≤ n) (h1 : n ≤ size - zs.length) (k0 : 0 ≤ st) (k1 : st < 1000000) :
    Calls Try.prog 35 #[.pointer (some ⟨p, 0, none⟩), .int .i64 n] w fun e w' => e = .returned (.tuple #[.int .i64 (zs.length : Int), .int .u16 0]) ∧ Mem1 w' B p size (zs ++ List.replicate n.toNat 0) (st + 1) ∧ Below B w w' ∧ Kept w w' := by
  obtain ⟨v, m⟩ := h
  have C := allocOk m n.toNat (by omega) k0 k1
  rw [Int.toNat_of_nonneg h0] at C
  exact C.mono fun e w' ⟨he, d⟩ => ⟨he, (d.one m).1, (d.one m).2, d.kept m⟩
end

end Go.Proofs.Ythefdglocnalhaa.M2
namespace Go.Proofs.Ythefdglocnalhaa.M2
open Go.RowKit

theorem getD_set (zs : List Int) (i j : Nat) (x : Int) : (zs.set i x).getD j 0 = if i = j ∧ i < zs.length then x else zs.getD j 0 := by
  simp only [List.getD, List.getElem?_set]
  by_cases h : i = j
  · subst h
    by_cases h2 : i < zs.length
    · simp [h2]
    · simp [h2]
  · simp [h]

/-- The first i of vs, set from b on. -/
def setN (zs : List Int) (b : Nat) (vs : List Int) : Nat → List Int
  | 0 => zs
  | i + 1 => (setN zs b vs i).set (b + i) (vs.getD i 0)

theorem setN_length (zs : List Int) (b : Nat) (vs : List Int) (i : Nat) : (setN zs b vs i).length = zs.length := by
  induction i with
  | zero => rfl
  | succ i ih => simp [setN, ih]

theorem setN_at (zs : List Int) (b : Nat) (vs : List Int) (i t : Nat) (ht : t < i) (hb : b + i ≤ zs.length) : (setN zs b vs i).getD (b + t) 0 = vs.getD t 0 := by
  induction i with
  | zero => omega
  | succ i ih =>
    rw [setN, getD_set, setN_length]
    by_cases h : t = i
    · subst h
      rw [if_pos (by omega)]
    · rw [if_neg (by omega)]
      exact ih (by omega) (by omega)

/-- A list of int64 that is a whole block. -/
def VR (w : World) (g : Nat) (vs : List Int) : Prop := w.heap[g]? = some (Obj.cells (vs.map (Value.int .i64)).toArray 2 (0, 0))
theorem VR.lt {w : World} {g : Nat} {vs : List Int} (h : VR w g vs) : g < w.heap.size := lt_of_block h
theorem VR.keep {w w' : World} {g : Nat} {vs : List Int} (h : VR w g vs) (hb : Below w.heap.size w w') : VR w' g vs := (hb.block g h.lt).trans h
theorem VR.cell {w : World} {g : Nat} {vs : List Int} (h : VR w g vs) {i : Nat} (hi : i < vs.length) : w.cell? ⟨g, i, none⟩ = some (.int .i64 (vs.getD i 0)) := by
  unfold VR at h
  simp [World.cell?, h, List.getD, hi]
theorem VR.f {w : World} {g : Nat} {vs : List Int} (h : VR w g vs) (o : Nat) : w.frozen? ⟨g, o, none⟩ = false := by unfold VR at h; simp [World.frozen?, h]

/-- A memory whose row is not block g. -/
def MemG (w : World) (B p : Nat) (size : Int) (zs : List Int) (st : Int) (g : Nat) : Prop := ∃ v, Mem w B p v size zs st ∧ v.ownBlock ≠ some g ∧ p ≠ g ∧ g < w.heap.size

section
variable {w : World} {B p g : Nat} {size : Int} {zs : List Int} {st : Int}
theorem MemG.one (h : MemG w B p size zs st g) : Mem1 w B p size zs st := by
  obtain ⟨v, m, _⟩ := h
  exact ⟨v, m⟩
theorem MemG.keep {w' : World} (h : MemG w B p size zs st g) (b : Below w.heap.size w w') : MemG w' B p size zs st g := by
  obtain ⟨v, m, h1, h2, h3⟩ := h
  exact ⟨v, m.fresh b, h1, h2, Nat.lt_of_lt_of_le h3 b.size⟩
/-- A block that was made behind the memory. -/
theorem Mem1.beside {w' : World} (h : Mem1 w B p size zs st) (hg : w.heap.size ≤ g) (hl : g < w'.heap.size) (b : Below w.heap.size w w') : MemG w' B p size zs st g := by
  obtain ⟨v, m⟩ := h
  refine ⟨v, m.fresh b, fun e => ?_, ?_, hl⟩
  · have := (m.rowLt e).2
    omega
  · have := m.lt
    omega

theorem storeG (h : MemG w B p size zs st g) (a x : Int) (h0 : 0 ≤ a) (h1 : a < zs.length) (k0 : 0 ≤ st) (k1 : st < 1000000) :
    Calls Try.prog 19 #[.pointer (some ⟨p, 0, none⟩), .int .i64 a, .int .i64 x] w fun e w' => e = .returned (.int .u16 0) ∧ MemG w' B p size (zs.set a.toNat x) (st + 1) g ∧ Below B w w' ∧ w'.heap[g]? = w.heap[g]? := by
  obtain ⟨v, m, n1, n2, n3⟩ := h
  refine (storeIn m a x h0 h1 k0 k1).mono fun e w' ⟨he, d⟩ => ⟨he, ?_, (d.one m).2, ?_⟩
  · obtain ⟨v', m', wr, lt⟩ := d
    refine ⟨v', m', fun e => ?_, n2, Nat.lt_of_lt_of_le n3 wr.size⟩
    rcases lt g e with h | h
    · exact n1 h
    · omega
  · obtain ⟨v', m', wr, lt⟩ := d
    exact wr.block g n3 (fun e => n2 e.symm) n1
end

end Go.Proofs.Ythefdglocnalhaa.M2
