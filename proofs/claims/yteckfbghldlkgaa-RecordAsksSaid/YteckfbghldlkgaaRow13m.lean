/-
  A memory beside a list of int64 of one's own that is not the memory's own row; numbers set one behind the other. Conditions: a memory as Mem says.
-/
import Derived.Test.YteckfbghldlkgaaKept13m
namespace Go.Proofs.Yteckfbghldlkgaa.M2
open Go.RowKit

theorem getD_set (zs : List Int) (i j : Nat) (x : Int) : (zs.set i x).getD j 0 = if i = j ∧ i < zs.length then x else zs.getD j 0 := by
  simp only [List.getD, List.getElem?_set]
  by_cases h : i = j
  · subst h
    by_cases h2 : i < zs.length
    · simp [h2]
    · simp [h2]
  · simp [h]

/-- The first i of vs, set from b on. -/
def setN (zs : List Int) (b : Nat) (vs : List Int) : Nat → List Int
  | 0 => zs
  | i + 1 => (setN zs b vs i).set (b + i) (vs.getD i 0)

theorem setN_length (zs : List Int) (b : Nat) (vs : List Int) (i : Nat) : (setN zs b vs i).length = zs.length := by
  induction i with
  | zero => rfl
  | succ i ih => simp [setN, ih]

theorem setN_at (zs : List Int) (b : Nat) (vs : List Int) (i t : Nat) (ht : t < i) (hb : b + i ≤ zs.length) : (setN zs b vs i).getD (b + t) 0 = vs.getD t 0 := by
  induction i with
  | zero => omega
  | succ i ih =>
    rw [setN, getD_set, setN_length]
    by_cases h : t = i
    · subst h
      rw [if_pos (by omega)]
    · rw [if_neg (by omega)]
      exact ih (by omega) (by omega)

/-- A list of int64 that is a whole block. -/
def VR (w : World) (g : Nat) (vs : List Int) : Prop := w.heap[g]? = some (Obj.cells (vs.map (Value.int .i64)).toArray 2 (0, 0))
theorem VR.lt {w : World} {g : Nat} {vs : List Int} (h : VR w g vs) : g < w.heap.size := lt_of_block h
theorem VR.keep {w w' : World} {g : Nat} {vs : List Int} (h : VR w g vs) (hb : Below w.heap.size w w') : VR w' g vs := (hb.block g h.lt).trans h
theorem VR.cell {w : World} {g : Nat} {vs : List Int} (h : VR w g vs) {i : Nat} (hi : i < vs.length) : w.cell? ⟨g, i, none⟩ = some (.int .i64 (vs.getD i 0)) := by
  unfold VR at h
  simp [World.cell?, h, List.getD, hi]
theorem VR.f {w : World} {g : Nat} {vs : List Int} (h : VR w g vs) (o : Nat) : w.frozen? ⟨g, o, none⟩ = false := by unfold VR at h; simp [World.frozen?, h]

/-- A memory whose row is not block g. -/
def MemG (w : World) (B p : Nat) (size : Int) (zs : List Int) (st : Int) (g : Nat) : Prop := ∃ v, Mem w B p v size zs st ∧ v.ownBlock ≠ some g ∧ p ≠ g ∧ g < w.heap.size

section
variable {w : World} {B p g : Nat} {size : Int} {zs : List Int} {st : Int}
theorem MemG.one (h : MemG w B p size zs st g) : Mem1 w B p size zs st := by
  obtain ⟨v, m, _⟩ := h
  exact ⟨v, m⟩
theorem MemG.keep {w' : World} (h : MemG w B p size zs st g) (b : Below w.heap.size w w') : MemG w' B p size zs st g := by
  obtain ⟨v, m, h1, h2, h3⟩ := h
  exact ⟨v, m.fresh b, h1, h2, Nat.lt_of_lt_of_le h3 b.size⟩
/-- A block that was made behind the memory. -/
theorem Mem1.beside {w' : World} (h : Mem1 w B p size zs st) (hg : w.heap.size ≤ g) (hl : g < w'.heap.size) (b : Below w.heap.size w w') : MemG w' B p size zs st g := by
  obtain ⟨v, m⟩ := h
  refine ⟨v, m.fresh b, fun e => ?_, ?_, hl⟩
  · have := (m.rowLt e).2
    omega
  · have := m.lt
    omega

theorem storeG (h : MemG w B p size zs st g) (a x : Int) (h0 : 0 ≤ a) (h1 : a < zs.length) (k0 : 0 ≤ st) (k1 : st < 1000000) :
    Calls Try.prog 19 #[.pointer (some ⟨p, 0, none⟩), .int .i64 a, .int .i64 x] w fun e w' => e = .returned (.int .u16 0) ∧ MemG w' B p size (zs.set a.toNat x) (st + 1) g ∧ Below B w w' ∧ w'.heap[g]? = w.heap[g]? := by
  obtain ⟨v, m, n1, n2, n3⟩ := h
  refine (storeIn m a x h0 h1 k0 k1).mono fun e w' ⟨he, d⟩ => ⟨he, ?_, (d.one m).2, ?_⟩
  · obtain ⟨v', m', wr, lt⟩ := d
    refine ⟨v', m', fun e => ?_, n2, Nat.lt_of_lt_of_le n3 wr.size⟩
    rcases lt g e with h | h
    · exact n1 h
    · omega
  · obtain ⟨v', m', wr, lt⟩ := d
    exact wr.block g n3 (fun e => n2 e.symm) n1
end

end Go.Proofs.Yteckfbghldlkgaa.M2
