/-
  A row of what is told, in a block of one's own: codes and values. Conditions: none; no Go function is looked at here. An operation in a block of its own. Conditions: none. What reaperref08.Order tells: as ordL says; equality of ints. Conditions: at most a thousand operations.
-/
import Derived.Test.YtikaoikladbdpaaGreatG0316
namespace Go.Proofs.YtikaoikladbdpaaGreat
open Go.RowKit

def RRow (w : World) (b : Nat) (rs : List (Int × Int)) : Prop := w.heap[b]? = some (.cells (flatO rs).toArray 74 (0, 0))
theorem flatO_set (rs : List (Int × Int)) (i : Nat) (c x : Int) : ((flatO rs).set (i * 2) (.int .u8 c)).set (i * 2 + 1) (.int .i32 x) = flatO (rs.set i (c, x)) := by
  induction rs generalizing i with
  | nil => rfl
  | cons o os ih =>
    cases i with
    | zero => simp [flatO]
    | succ i =>
      have := ih i
      rw [show (i + 1) * 2 = i * 2 + 2 by omega, show i * 2 + 2 + 1 = i * 2 + 1 + 2 by omega]
      simpa [flatO, List.flatMap_cons] using this
theorem flatO_set1 (rs : List (Int × Int)) (i : Nat) (c : Int) : (flatO rs).set (i * 2) (.int .u8 c) = flatO (rs.set i (c, (rs.getD i (0, 0)).2)) := by
  induction rs generalizing i with
  | nil => rfl
  | cons o os ih =>
    cases i with
    | zero => simp [flatO]
    | succ i =>
      have := ih i
      rw [show (i + 1) * 2 = i * 2 + 2 by omega]
      simpa [flatO, List.flatMap_cons] using this

section
variable {w w' : World} {b i : Nat} {rs : List (Int × Int)}
theorem RRow.lt (h : RRow w b rs) : b < w.heap.size := lt_of_block h
theorem RRow.keep (h : RRow w b rs) (hb : w'.heap[b]? = w.heap[b]?) : RRow w' b rs := hb.trans h
theorem RRow.below (h : RRow w b rs) (hb : Below w.heap.size w w') : RRow w' b rs := (hb.block b h.lt).trans h
theorem RRow.free (h : RRow w b rs) (j : Nat) : w.frozen? ⟨b, j, none⟩ = false := by unfold RRow at h; simp [World.frozen?, h]
theorem RRow.cells (h : RRow w b rs) (hi : i < rs.length) : w.cell? ⟨b, i * 2, none⟩ = some (.int .u8 (rs.getD i (0, 0)).1) ∧ w.cell? ⟨b, i * 2 + 1, none⟩ = some (.int .i32 (rs.getD i (0, 0)).2) := by
  obtain ⟨h1, h2⟩ := flatO_at rs i hi
  unfold RRow at h
  simp [World.cell?, h, h1, h2]
theorem RRow.set2 (h : RRow w b rs) (i : Nat) (c x : Int) : RRow ((w.setCell ⟨b, i * 2, none⟩ (.int .u8 c)).setCell ⟨b, i * 2 + 1, none⟩ (.int .i32 x)) b (rs.set i (c, x)) := by
  unfold RRow at h ⊢
  rw [heap_setCell_same _ b _ _ _ _ (heap_setCell_same w b _ _ _ _ h), ← flatO_set]
  simp
theorem RRow.set1 (h : RRow w b rs) (i : Nat) (c : Int) : RRow (w.setCell ⟨b, i * 2, none⟩ (.int .u8 c)) b (rs.set i (c, (rs.getD i (0, 0)).2)) := by
  unfold RRow at h ⊢
  rw [heap_setCell_same w b _ _ _ _ h, ← flatO_set1]
  simp
end


theorem flatO_setV (rs : List (Int × Int)) (i : Nat) (x : Int) : (flatO rs).set (i * 2 + 1) (.int .i32 x) = flatO (rs.set i ((rs.getD i (0, 0)).1, x)) := by
  induction rs generalizing i with
  | nil => rfl
  | cons o os ih =>
    cases i with
    | zero => simp [flatO]
    | succ i =>
      have := ih i
      rw [show (i + 1) * 2 + 1 = i * 2 + 1 + 2 by omega]
      simpa [flatO, List.flatMap_cons] using this
theorem RRow.setV {w : World} {b : Nat} {rs : List (Int × Int)} (h : RRow w b rs) (i : Nat) (x : Int) : RRow (w.setCell ⟨b, i * 2 + 1, none⟩ (.int .i32 x)) b (rs.set i ((rs.getD i (0, 0)).1, x)) := by
  unfold RRow at h ⊢
  rw [heap_setCell_same w b _ _ _ _ h, ← flatO_setV]
  simp

theorem infoRes : (Tryz.prog.info? 74).map (fun i => (i.zero, i.size, i.bytes)) = some (some (.agg #[.int .u8 0, .int .i32 0]), 2, 8) := by kernel_rfl

theorem made_two (n : Nat) : (madeCells (Value.agg #[.int .u8 0, .int .i32 0]).cells (n * 2)).toList = flatO (List.replicate n (0, 0)) := by
  apply List.ext_getElem?
  intro j
  by_cases hj : j < n * 2
  · have h2 := flatO_at (List.replicate n (0, 0)) (j / 2) (by simp; omega)
    have hd : (List.replicate n ((0, 0) : Int × Int)).getD (j / 2) (0, 0) = (0, 0) := by simp [List.getD, show j / 2 < n by omega]
    rw [hd] at h2
    have e : (madeCells (Value.agg #[.int .u8 0, .int .i32 0]).cells (n * 2)).toList[j]? = some (if j % 2 = 0 then Value.int .u8 0 else .int .i32 0) := by
      simp only [madeCells, Value.cells]
      rcases Nat.mod_two_eq_zero_or_one j with h | h <;> simp [hj, h]
    rw [e]
    rcases Nat.mod_two_eq_zero_or_one j with h | h
    · rw [if_pos h, show j = j / 2 * 2 by omega]; exact h2.1.symm
    · rw [if_neg (by omega), show j = j / 2 * 2 + 1 by omega]; exact h2.2.symm
  · rw [List.getElem?_eq_none (by simp [madeCells]; omega), List.getElem?_eq_none (by rw [flatO_length]; simp; omega)]
theorem madeRes {w w1 : World} {n : Nat} (ho : w1.ownsRow w.heap.size 74 2 (.slice (some ⟨w.heap.size, 0, none⟩) n n) n (madeCells (Value.agg #[.int .u8 0, .int .i32 0]).cells (n * 2)).toList) (hg : w.grownBy w1 none) :
    RRow w1 w.heap.size (List.replicate n (0, 0)) ∧ Below w.heap.size w w1 := by
  refine ⟨?_, (Below.refl _ _).grown hg (Nat.le_refl _) (by simp)⟩
  rw [made_two] at ho
  rcases ho.2 with ⟨h', _⟩ | ⟨g', cap', cur, h', _, hgg, _, _, hcs, htake⟩
  · simp at h'
  · simp only [Value.slice.injEq, Option.some.injEq, Addr.mk.injEq, and_true, true_and] at h'
    obtain ⟨rfl, rfl⟩ := h'
    unfold RRow
    rw [hgg, ← htake, List.take_of_length_le (by simp; omega)]


end Go.Proofs.YtikaoikladbdpaaGreat
namespace Go.Proofs.YtikaoikladbdpaaGreat
open Go.RowKit

def OBox (w : World) (g : Nat) (k v : Int) : Prop := w.heap[g]? = some (.cells #[.int .u8 k, .int .i32 v] 38 (0, 0))
section
variable {w w' : World} {g : Nat} {k v : Int}
theorem OBox.c0 (h : OBox w g k v) : w.cell? ⟨g, 0, none⟩ = some (.int .u8 k) := by unfold OBox at h; simp [World.cell?, h]
theorem OBox.c1 (h : OBox w g k v) : w.cell? ⟨g, 1, none⟩ = some (.int .i32 v) := by unfold OBox at h; simp [World.cell?, h]
theorem OBox.lt (h : OBox w g k v) : g < w.heap.size := lt_of_block h
theorem OBox.keep (h : OBox w g k v) (hb : Below w.heap.size w w') : OBox w' g k v := (hb.block g h.lt).trans h
theorem OBox.other (h : OBox w g k v) {p : Addr} (hp : p.block ≠ g) (u : Value) : OBox (w.setCell p u) g k v := by
  have hw : Wrote (fun q => q = p.block) w (w.setCell p u) := (Wrote.refl (fun q => q = p.block) w).setCell (q := p) (.inr rfl) u
  exact (hw.block g h.lt (fun e => hp e.symm)).trans h
theorem OBox.new (w : World) (k v : Int) : OBox (w.alloc (.cells #[.int .u8 k, .int .i32 v] 38)) w.heap.size k v := heap_alloc_new w _
theorem OBox.alloc (h : OBox w g k v) (o : Obj) : OBox (w.alloc o) g k v := (Below.heap_alloc _ _ _ h.lt).trans h
end

end Go.Proofs.YtikaoikladbdpaaGreat
namespace Go.Proofs.YtikaoikladbdpaaGreat
open Go.RowKit Go.Lib

section
variable {W w1 wr w2 : World} {v v2 : Value} {m m2 : Nat} {xs ys : List Value} {o : Obj}
end

end Go.Proofs.YtikaoikladbdpaaGreat
