/-
  The row of package ends in the model's world: slots that hold places, two ends, and what its calls do: items, put, take. Conditions: a row as Slots says. slices.Repeat of one int, as the program's own text says it: as many of it as asked. Conditions: at most 2^32. rowOf of package ends: a new row. Conditions: at most a million operations. An operation in a block of its own. Conditions: none.
-/
import Derived.Test.YtniefplgijpckaaGreatDB12
import Derived.Laws.Bits64b
import Derived.Laws.CopyOwn
import Derived.Deep.RegionHeldLaw
import Derived.Deep.CutRange
namespace Go.Proofs.YtniefplgijpckaaGreat.D10
open Go.RowKit

/-- A deque of places lies in slots, from place A on; n slots on each side of the t that were there at first. -/
structure SlotsOk (S : List Int) (n t k A : Nat) (s : List Int) : Prop where
  len : S.length = n + t + n
  lo : n ≤ A + k
  hi : A + s.length ≤ n + t + k
  at_ : ∀ i, i < s.length → S.getD (A + i) 0 = s.getD i 0

section
variable {S s : List Int} {n t k A : Nat}
theorem SlotsOk.start (n t : Nat) : SlotsOk (List.replicate (n + t + n) (-1)) n t 0 n (List.replicate t (-1)) :=
  ⟨by simp, by omega, by simp, fun i hi => by
    simp only [List.length_replicate] at hi
    simp [List.getD, show n + i < n + t + n by omega, hi]⟩
theorem SlotsOk.stay (h : SlotsOk S n t k A s) : SlotsOk S n t (k + 1) A s := ⟨h.len, by have := h.lo; omega, by have := h.hi; omega, h.at_⟩
theorem SlotsOk.left (h : SlotsOk S n t k (A + 1) s) (x : Int) (hk : k < n) : SlotsOk (S.set A x) n t (k + 1) A (x :: s) := by
  obtain ⟨h1, h2, h3, h4⟩ := h
  refine ⟨by simpa using h1, by omega, by simp; omega, fun i hi => ?_⟩
  cases i with
  | zero => simpa using getD_set_same S A x (by omega)
  | succ i =>
    have := h4 i (by simpa using hi)
    rw [getD_set_other S A _ x (by omega), show A + (i + 1) = A + 1 + i by omega, this]
    simp
theorem SlotsOk.right (h : SlotsOk S n t k A s) (x : Int) (hk : k < n) : SlotsOk (S.set (A + s.length) x) n t (k + 1) A (s ++ [x]) := by
  obtain ⟨h1, h2, h3, h4⟩ := h
  refine ⟨by simpa using h1, by omega, by simp; omega, fun i hi => ?_⟩
  simp only [List.length_append, List.length_singleton] at hi
  by_cases e : i = s.length
  · subst e
    rw [getD_set_same S _ x (by omega)]
    simp [List.getD]
  · rw [getD_set_other S _ _ x (by omega), h4 i (by omega)]
    simp [List.getD, List.getElem?_append_left (show i < s.length by omega)]
theorem SlotsOk.popL {z : Int} (h : SlotsOk S n t k A (z :: s)) : SlotsOk S n t (k + 1) (A + 1) s ∧ S.getD A 0 = z := by
  obtain ⟨h1, h2, h3, h4⟩ := h
  simp only [List.length_cons] at h3 h4
  refine ⟨⟨h1, by omega, by omega, fun i hi => ?_⟩, by simpa using h4 0 (by omega)⟩
  have := h4 (i + 1) (by omega)
  rw [show A + 1 + i = A + (i + 1) by omega, this]
  simp
theorem SlotsOk.popR {z : Int} (h : SlotsOk S n t k A (s ++ [z])) : SlotsOk S n t (k + 1) A s ∧ S.getD (A + s.length) 0 = z := by
  obtain ⟨h1, h2, h3, h4⟩ := h
  simp only [List.length_append, List.length_singleton] at h3 h4
  refine ⟨⟨h1, by omega, by omega, fun i hi => ?_⟩, ?_⟩
  · rw [h4 i (by omega)]
    simp [List.getD, List.getElem?_append_left hi]
  · rw [h4 s.length (by omega)]
    simp [List.getD]
end

/-- The row itself: how many, the slots, two ends, whom they meet. -/
def RowB (w : World) (p : Nat) (most : Int) (g m : Nat) (a b : Int) (h n : Nat) : Prop :=
  w.heap[p]? = some (.cells #[.int .i64 most, .slice (some ⟨g, 0, none⟩) m m, .int .i64 a, .int .i64 (-1), .int .i64 b, .int .i64 1, .slice (some ⟨h, 0, none⟩) n n] 182 (0, 0))
section
variable {w w' : World} {p g m h n : Nat} {most a b : Int}
theorem RowB.lt (r : RowB w p most g m a b h n) : p < w.heap.size := lt_of_block r
theorem RowB.keep (r : RowB w p most g m a b h n) (hb : w'.heap[p]? = w.heap[p]?) : RowB w' p most g m a b h n := hb.trans r
theorem RowB.free (r : RowB w p most g m a b h n) (j : Nat) : w.frozen? ⟨p, j, none⟩ = false := by unfold RowB at r; simp [World.frozen?, r]
theorem RowB.c0 (r : RowB w p most g m a b h n) : w.cell? ⟨p, 0, none⟩ = some (.int .i64 most) := by unfold RowB at r; simp [World.cell?, r]
theorem RowB.c1 (r : RowB w p most g m a b h n) : w.cell? ⟨p, 1, none⟩ = some (.slice (some ⟨g, 0, none⟩) m m) := by unfold RowB at r; simp [World.cell?, r]
theorem RowB.c2 (r : RowB w p most g m a b h n) : w.cell? ⟨p, 2, none⟩ = some (.int .i64 a) := by unfold RowB at r; simp [World.cell?, r]
theorem RowB.c3 (r : RowB w p most g m a b h n) : w.cell? ⟨p, 3, none⟩ = some (.int .i64 (-1)) := by unfold RowB at r; simp [World.cell?, r]
theorem RowB.c4 (r : RowB w p most g m a b h n) : w.cell? ⟨p, 4, none⟩ = some (.int .i64 b) := by unfold RowB at r; simp [World.cell?, r]
theorem RowB.c5 (r : RowB w p most g m a b h n) : w.cell? ⟨p, 5, none⟩ = some (.int .i64 1) := by unfold RowB at r; simp [World.cell?, r]
theorem RowB.c6 (r : RowB w p most g m a b h n) : w.cell? ⟨p, 6, none⟩ = some (.slice (some ⟨h, 0, none⟩) n n) := by unfold RowB at r; simp [World.cell?, r]
theorem RowB.setA (r : RowB w p most g m a b h n) (x : Int) : RowB (w.setCell ⟨p, 2, none⟩ (.int .i64 x)) p most g m x b h n := by
  unfold RowB at r ⊢; rw [heap_setCell_same w p _ _ _ _ r]; rfl
theorem RowB.setB (r : RowB w p most g m a b h n) (x : Int) : RowB (w.setCell ⟨p, 4, none⟩ (.int .i64 x)) p most g m a x h n := by
  unfold RowB at r ⊢; rw [heap_setCell_same w p _ _ _ _ r]; rfl
end

/-- A row, its slots, its answers. -/
structure Slots (W : World) (p : Nat) (most : Int) (g h n t k : Nat) (s ds : List Int) : Prop where
  row : ∃ S A, SlotsOk S n t k A s ∧ RowB W p most g (n + t + n) ((A : Int) - 1) ((A + s.length : Nat) : Int) h n ∧ Rw W g .i64 3 S
  wit : Rw W h .i64 3 ds
  dlen : ds.length = n
  ne1 : p ≠ g
  ne2 : p ≠ h
  ne3 : g ≠ h

section
variable {W W' : World} {p g h n t k : Nat} {most : Int} {s ds : List Int}
theorem Slots.fresh (r : Slots W p most g h n t k s ds) (hb : Below W.heap.size W W') : Slots W' p most g h n t k s ds := by
  obtain ⟨⟨S, A, h1, h2, h3⟩, h4, h5, h6, h7, h8⟩ := r
  exact ⟨⟨S, A, h1, h2.keep (hb.block _ h2.lt), h3.below hb⟩, h4.below hb, h5, h6, h7, h8⟩
theorem Slots.off {F : Nat → Prop} (r : Slots W p most g h n t k s ds) (hw : Wrote F W W') (n1 : ¬ F p) (n2 : ¬ F g) (n3 : ¬ F h) : Slots W' p most g h n t k s ds := by
  obtain ⟨⟨S, A, h1, h2, h3⟩, h4, h5, h6, h7, h8⟩ := r
  exact ⟨⟨S, A, h1, h2.keep (hw.block _ h2.lt n1), h3.keep (hw.block _ h3.lt n2)⟩, h4.keep (hw.block _ h4.lt n3), h5, h6, h7, h8⟩
theorem Slots.stay (r : Slots W p most g h n t k s ds) : Slots W p most g h n t (k + 1) s ds := by
  obtain ⟨⟨S, A, h1, h2, h3⟩, h4, h5, h6, h7, h8⟩ := r
  exact ⟨⟨S, A, h1.stay, h2, h3⟩, h4, h5, h6, h7, h8⟩

/-- Whose blocks a row has. -/
def Own3 (p g h : Nat) : Nat → Prop := fun x => x = p ∨ x = g ∨ x = h

set_option maxRecDepth 100000 in
set_option maxHeartbeats 1600000 in
theorem itemsRow (r : Slots W p most g h n t k s ds) (hn : n ≤ 140737488355328) (ht : t ≤ 1000) (hk : k ≤ n) :
    Calls Tryz.prog 120 #[.pointer (some ⟨p, 0, none⟩)] W fun e w' => e = .returned (.int .i64 s.length) ∧ ∃ q, w' = W.drewN q := by
  obtain ⟨⟨S, A, h1, h2, h3⟩, h4, h5, h6, h7, h8⟩ := r
  have c2 := h2.c2
  have c4 := h2.c4
  have hl := h2.lt
  have ha : A + s.length ≤ 140737488355328 * 4 := by
    have := h1.hi
    omega
  have hab : ((A + s.length : Nat) : Int) - ((A : Int) - 1) = (s.length : Int) + 1 := by omega
  have hm : s.length ≤ 140737488355328 * 4 := by omega
  clear h1 h2 h3 h4 h5 h6 h7 h8 ha
  generalize ((A + s.length : Nat) : Int) = b at *
  generalize (A : Int) - 1 = a at *
  generalize s.length = m at *
  have e1 : IntKind.i64.wrap (b - a) = (m : Int) + 1 := by rw [IntKind.wrap_i64]; omega
  have e2 : IntKind.i64.wrap ((m : Int) + 1 - 1) = (m : Int) := by rw [IntKind.wrap_i64]; omega
  clear hab
  go_enter Tryz.func120, Tryz.ntmps120
  go_wp2
  go_quiet (fail)
  go_wp2
  go_ret
  exact ⟨rfl, _, rfl⟩

set_option maxRecDepth 100000 in
set_option maxHeartbeats 1600000 in
theorem putFull (r : Slots W p most g h n t k s ds) (hn : n ≤ 140737488355328) (ht : t ≤ 1000) (hk : k ≤ n) (hf : ¬ (s.length : Int) < most) (side place : Int) :
    Calls Tryz.prog 115 #[.pointer (some ⟨p, 0, none⟩), .int .i64 side, .int .i64 place] W fun e w' => e = .returned (.int .u8 3) ∧ Below W.heap.size W w' := by
  obtain ⟨⟨S, A, h1, h2, h3⟩, h4, h5, h6, h7, h8⟩ := id r
  have c0 := h2.c0
  have hl := h2.lt
  have P := fun q => itemsRow (r.fresh (below_drewN (Below.refl _ _) q)) hn ht hk
  clear h1 h2 h3 h4 h5 h6 h7 h8 r
  generalize s.length = m at *
  go_enter Tryz.func115, Tryz.ntmps115
  go_wp2
  go_quiet ((go_at_call 120; exact Calls.quiet_of (P _)))
  go_wp2
  go_ret
  exact ⟨rfl, below_drewN (Below.refl _ _) _⟩

/-- What a call leaves. -/
def SlotsPost (p g h : Nat) (most : Int) (n t k : Nat) (s ds : List Int) (c : Int) (W : World) (e : Ending) (w' : World) : Prop :=
  e = .returned (.int .u8 c) ∧ Slots w' p most g h n t k s ds ∧ Wrote (Own3 p g h) W w'

/-- On the way: what lies in memory. -/
structure SI (W0 : World) (p g h : Nat) (most : Int) (N : Nat) (a b : Int) (n : Nat) (S ds : List Int) (W : World) : Prop where
  row : RowB W p most g N a b h n
  sl : Rw W g .i64 3 S
  wit : Rw W h .i64 3 ds
  ne1 : p ≠ g
  ne2 : p ≠ h
  ne3 : g ≠ h
  wr : Wrote (Own3 p g h) W0 W
section
variable {W0 : World} {N : Nat} {a b : Int} {S : List Int}
theorem SI.fresh (r : SI W0 p g h most N a b n S ds W) (hb : Below W.heap.size W W') : SI W0 p g h most N a b n S ds W' := by
  obtain ⟨h1, h2, h3, h4, h5, h6, h7⟩ := r
  exact ⟨h1.keep (hb.block _ h1.lt), h2.below hb, h3.below hb, h4, h5, h6, h7.trans (Wrote.of hb _)⟩
theorem SI.drewN (r : SI W0 p g h most N a b n S ds W) (q : Nat) : SI W0 p g h most N a b n S ds (W.drewN q) := r.fresh (below_drewN (Below.refl _ _) q)
theorem SI.drew (r : SI W0 p g h most N a b n S ds W) : SI W0 p g h most N a b n S ds W.drew := r.fresh (Below.refl _ _).drew
theorem SI.setS (r : SI W0 p g h most N a b n S ds W) (i : Nat) (x : Int) : SI W0 p g h most N a b n (S.set i x) ds (W.setCell ⟨g, i, none⟩ (.int .i64 x)) := by
  obtain ⟨h1, h2, h3, h4, h5, h6, h7⟩ := r
  exact ⟨h1.keep (Below.heap_setCell _ _ _ _ h4), h2.set i x, h3.keep (Below.heap_setCell _ _ _ _ (fun e => h6 e.symm)), h4, h5, h6, h7.setCell (.inr (.inr (.inl rfl))) _⟩
theorem SI.setD (r : SI W0 p g h most N a b n S ds W) (i : Nat) (x : Int) : SI W0 p g h most N a b n S (ds.set i x) (W.setCell ⟨h, i, none⟩ (.int .i64 x)) := by
  obtain ⟨h1, h2, h3, h4, h5, h6, h7⟩ := r
  exact ⟨h1.keep (Below.heap_setCell _ _ _ _ h5), h2.keep (Below.heap_setCell _ _ _ _ h6), h3.set i x, h4, h5, h6, h7.setCell (.inr (.inr (.inr rfl))) _⟩
theorem SI.setA (r : SI W0 p g h most N a b n S ds W) (x : Int) : SI W0 p g h most N x b n S ds (W.setCell ⟨p, 2, none⟩ (.int .i64 x)) := by
  obtain ⟨h1, h2, h3, h4, h5, h6, h7⟩ := r
  exact ⟨h1.setA x, h2.keep (Below.heap_setCell _ _ _ _ (fun e => h4 e.symm)), h3.keep (Below.heap_setCell _ _ _ _ (fun e => h5 e.symm)), h4, h5, h6, h7.setCell (.inr (.inl rfl)) _⟩
theorem SI.setB (r : SI W0 p g h most N a b n S ds W) (x : Int) : SI W0 p g h most N a x n S ds (W.setCell ⟨p, 4, none⟩ (.int .i64 x)) := by
  obtain ⟨h1, h2, h3, h4, h5, h6, h7⟩ := r
  exact ⟨h1.setB x, h2.keep (Below.heap_setCell _ _ _ _ (fun e => h4 e.symm)), h3.keep (Below.heap_setCell _ _ _ _ (fun e => h5 e.symm)), h4, h5, h6, h7.setCell (.inr (.inl rfl)) _⟩
end

set_option maxRecDepth 100000 in
set_option maxHeartbeats 3200000 in
theorem putLeft (r : Slots W p most g h n t k s ds) (hn : n ≤ 140737488355328) (ht : t ≤ 1000) (hk : k < n) (hf : (s.length : Int) < most) :
    Calls Tryz.prog 115 #[.pointer (some ⟨p, 0, none⟩), .int .i64 0, .int .i64 k] W (SlotsPost p g h most n t (k + 1) (k :: s) ds 1 W) := by
  obtain ⟨⟨S, A, h1, h2, h3⟩, h4, h5, h6, h7, h8⟩ := id r
  have c0 := h2.c0
  have hl := h2.lt
  have P := fun q => itemsRow (r.fresh (below_drewN (Below.refl _ _) q)) hn ht (by omega)
  have hlo := h1.lo
  obtain ⟨A, rfl⟩ : ∃ A', A = A' + 1 := ⟨A - 1, by omega⟩
  have hhi := h1.hi
  have hlen := h1.len
  have hA : A < n + t + n := by omega
  have hA2 : A ≤ 140737488355328 * 4 := by omega
  have e0 : ((A + 1 : Nat) : Int) - 1 = (A : Int) := by omega
  rw [e0] at h2
  have HN := Lib.hid (fun (w3 : World) (j : SI W p g h most (n + t + n) (((A : Nat) : Int) - 1) ((A + 1 + s.length : Nat) : Int) n (S.set A k) ds w3) =>
    (⟨⟨⟨S.set A k, A, h1.left k hk, by rw [show A + ((k : Int) :: s).length = A + 1 + s.length by simp; omega]; exact j.row, j.sl⟩, j.wit, h5, h6, h7, h8⟩, j.wr⟩ : Slots w3 p most g h n t (k + 1) (k :: s) ds ∧ Wrote (Own3 p g h) W w3))
  have HI := Lib.hid (⟨h2, h3, h4, h6, h7, h8, Wrote.refl _ _⟩ : SI W p g h most (n + t + n) (A : Int) ((A + 1 + s.length : Nat) : Int) n S ds W)
  clear h1 h2 h3 h4 h5 h6 h7 h8 r hlo hhi e0
  generalize ((A + 1 + s.length : Nat) : Int) = b at *
  generalize s.length = m at *
  generalize n + t + n = N at *
  have i1 : (A : Int) < (N : Int) := by omega
  have e1 : IntKind.i64.wrap ((A : Int) + -1) = (A : Int) - 1 := by rw [IntKind.wrap_i64]; omega
  go_enter Tryz.func115, Tryz.ntmps115
  go_wp2
  go_quiet ((go_at_call 120; exact Calls.quiet_of (P _)))
  clear P c0
  have HI1 := Lib.hid (HI.out.drewN nq)
  generalize W.drewN nq = W1 at *
  have c1 := HI1.out.row.c1
  have c2 := HI1.out.row.c2
  have hl1 := HI1.out.row.lt
  go_wp2
  go_still_tail 10, (by kernel_rfl)
  change wpList _ _ _ _ _ W1.drew
  have HI2 := Lib.hid HI1.out.drew
  clear HI1 c1 c2 hl1
  generalize W1.drew = W2 at *
  have x1 := HI2.out.sl.cell (i := A) (by omega)
  have f1 := HI2.out.sl.free A
  generalize S.getD A 0 = z at *
  go_wp2
  have HI3 := Lib.hid (HI2.out.setS A (k : Int))
  clear HI2 x1 f1
  generalize W2.setCell ⟨g, A, none⟩ (.int .i64 (k : Int)) = W3 at *
  have c2 := HI3.out.row.c2
  have c3 := HI3.out.row.c3
  have f2 := HI3.out.row.free 2
  go_still_tail 11, (by kernel_rfl)
  change wpList _ _ _ _ _ W3.drew
  have HI4 := Lib.hid HI3.out.drew
  clear HI3 c2 c3 f2
  generalize W3.drew = W4 at *
  have c2 := HI4.out.row.c2
  have f2 := HI4.out.row.free 2
  go_wp2
  go_ret
  exact ⟨rfl, HN.out _ (HI4.out.setA _)⟩

set_option maxRecDepth 100000 in
set_option maxHeartbeats 3200000 in
theorem putRight (r : Slots W p most g h n t k s ds) (hn : n ≤ 140737488355328) (ht : t ≤ 1000) (hk : k < n) (hf : (s.length : Int) < most) :
    Calls Tryz.prog 115 #[.pointer (some ⟨p, 0, none⟩), .int .i64 1, .int .i64 k] W (SlotsPost p g h most n t (k + 1) (s ++ [(k : Int)]) ds 1 W) := by
  obtain ⟨⟨S, A, h1, h2, h3⟩, h4, h5, h6, h7, h8⟩ := id r
  have c0 := h2.c0
  have hl := h2.lt
  have P := fun q => itemsRow (r.fresh (below_drewN (Below.refl _ _) q)) hn ht (by omega)
  have hlo := h1.lo
  have hhi := h1.hi
  have hlen := h1.len
  have hA : A + s.length < n + t + n := by omega
  have hA2 : A + s.length ≤ 140737488355328 * 4 := by omega
  have HN := Lib.hid (fun (w3 : World) (j : SI W p g h most (n + t + n) (((A : Nat) : Int) - 1) ((A + s.length : Nat) + 1 : Int) n (S.set (A + s.length) k) ds w3) =>
    (⟨⟨⟨S.set (A + s.length) k, A, h1.right k hk, by rw [show ((A + (s ++ [(k : Int)]).length : Nat) : Int) = ((A + s.length : Nat) : Int) + 1 by simp; omega]; exact j.row, j.sl⟩, j.wit, h5, h6, h7, h8⟩, j.wr⟩ : Slots w3 p most g h n t (k + 1) (s ++ [(k : Int)]) ds ∧ Wrote (Own3 p g h) W w3))
  have HI := Lib.hid (⟨h2, h3, h4, h6, h7, h8, Wrote.refl _ _⟩ : SI W p g h most (n + t + n) (((A : Nat) : Int) - 1) ((A + s.length : Nat) : Int) n S ds W)
  clear h1 h2 h3 h4 h5 h6 h7 h8 r hlo hhi
  generalize ((A : Nat) : Int) - 1 = a at *
  generalize A + s.length = b at *
  generalize s.length = m at *
  generalize n + t + n = N at *
  have i1 : (b : Int) < (N : Int) := by omega
  have e1 : IntKind.i64.wrap ((b : Int) + 1) = (b : Int) + 1 := by rw [IntKind.wrap_i64]; omega
  go_enter Tryz.func115, Tryz.ntmps115
  go_wp2
  go_quiet ((go_at_call 120; exact Calls.quiet_of (P _)))
  clear P c0
  have HI1 := Lib.hid (HI.out.drewN nq)
  generalize W.drewN nq = W1 at *
  have c1 := HI1.out.row.c1
  have c4 := HI1.out.row.c4
  have hl1 := HI1.out.row.lt
  go_wp2
  go_still_tail 10, (by kernel_rfl)
  change wpList _ _ _ _ _ W1.drew
  have HI2 := Lib.hid HI1.out.drew
  clear HI1 c1 c4 hl1
  generalize W1.drew = W2 at *
  have x1 := HI2.out.sl.cell (i := b) (by omega)
  have f1 := HI2.out.sl.free b
  generalize S.getD b 0 = z at *
  go_wp2
  have HI3 := Lib.hid (HI2.out.setS b (k : Int))
  clear HI2 x1 f1
  generalize W2.setCell ⟨g, b, none⟩ (.int .i64 (k : Int)) = W3 at *
  have c4 := HI3.out.row.c4
  have c5 := HI3.out.row.c5
  have f4 := HI3.out.row.free 4
  go_still_tail 11, (by kernel_rfl)
  change wpList _ _ _ _ _ W3.drew
  have HI4 := Lib.hid HI3.out.drew
  clear HI3 c4 c5 f4
  generalize W3.drew = W4 at *
  have c4 := HI4.out.row.c4
  have f4 := HI4.out.row.free 4
  go_wp2
  go_ret
  exact ⟨rfl, HN.out _ (HI4.out.setB _)⟩

set_option maxRecDepth 100000 in
set_option maxHeartbeats 1600000 in
theorem takeNone (r : Slots W p most g h n t k [] ds) (hn : n ≤ 140737488355328) (ht : t ≤ 1000) (hk : k ≤ n) (side place : Int) :
    Calls Tryz.prog 116 #[.pointer (some ⟨p, 0, none⟩), .int .i64 side, .int .i64 place] W fun e w' => e = .returned (.int .u8 4) ∧ Below W.heap.size W w' := by
  have C := itemsRow r hn ht hk
  clear r
  simp only [List.length_nil] at C
  go_enter Tryz.func116, Tryz.ntmps116
  go_wp2_with fail
  refine C.mono ?_
  rintro e w2 ⟨rfl, q, rfl⟩
  go_wp2
  go_ret
  exact ⟨rfl, below_drewN (Below.refl _ _) _⟩

set_option maxRecDepth 100000 in
set_option maxHeartbeats 3200000 in
theorem takeLeft {z : Int} (r : Slots W p most g h n t k (z :: s) ds) (hn : n ≤ 140737488355328) (ht : t ≤ 1000) (hk : k < n) :
    Calls Tryz.prog 116 #[.pointer (some ⟨p, 0, none⟩), .int .i64 0, .int .i64 k] W (SlotsPost p g h most n t (k + 1) s (ds.set k z) 2 W) := by
  have C := itemsRow r hn ht (by omega)
  obtain ⟨⟨S, A, h1, h2, h3⟩, h4, h5, h6, h7, h8⟩ := r
  have hlo := h1.lo
  have hhi := h1.hi
  have hlen := h1.len
  obtain ⟨h9, h10⟩ := h1.popL
  simp only [List.length_cons] at C hhi h2
  have hA : A < n + t + n := by omega
  have hA2 : A ≤ 140737488355328 * 4 := by omega
  have HN := Lib.hid (fun (w3 : World) (j : SI W p g h most (n + t + n) (A : Int) ((A + (s.length + 1) : Nat) : Int) n S (ds.set k z) w3) =>
    (⟨⟨⟨S, A + 1, h9, by rw [show ((A + 1 : Nat) : Int) - 1 = (A : Int) by omega, show A + 1 + s.length = A + (s.length + 1) by omega]; exact j.row, j.sl⟩, j.wit, by simpa using h5, h6, h7, h8⟩, j.wr⟩ : Slots w3 p most g h n t (k + 1) s (ds.set k z) ∧ Wrote (Own3 p g h) W w3))
  have HI := Lib.hid (⟨h2, h3, h4, h6, h7, h8, Wrote.refl _ _⟩ : SI W p g h most (n + t + n) (((A : Nat) : Int) - 1) ((A + (s.length + 1) : Nat) : Int) n S ds W)
  have HZ := Lib.hid h10
  have HD := Lib.hid h5
  clear h1 h2 h3 h4 h5 h6 h7 h8 h9 h10 hlo hhi
  generalize ((A + (s.length + 1) : Nat) : Int) = b at *
  generalize s.length = m at *
  generalize n + t + n = N at *
  have i1 : (A : Int) < (N : Int) := by omega
  have i2 : (k : Int) < (n : Int) := by omega
  have m1 : ¬ (m : Int) + 1 = 0 := by omega
  have e1 : IntKind.i64.wrap ((A : Int) - 1 + 1) = (A : Int) := by rw [IntKind.wrap_i64]; omega
  generalize he : (A : Int) - 1 = a at *
  clear he
  go_enter Tryz.func116, Tryz.ntmps116
  go_wp2_with fail
  refine C.mono ?_
  clear C
  rintro e w2 ⟨rfl, q, rfl⟩
  have HI1 := Lib.hid (HI.out.drewN q)
  generalize W.drewN q = W1 at *
  have c2 := HI1.out.row.c2
  have c3 := HI1.out.row.c3
  have f2 := HI1.out.row.free 2
  have hl1 := HI1.out.row.lt
  go_wp2
  go_still_tail 11, (by kernel_rfl)
  change wpList _ _ _ _ _ W1.drew
  have HI2 := Lib.hid HI1.out.drew
  clear HI1 c2 c3 f2 hl1
  generalize W1.drew = W2 at *
  have c2 := HI2.out.row.c2
  have f2 := HI2.out.row.free 2
  go_wp2
  have HI3 := Lib.hid (HI2.out.setA (A : Int))
  clear HI2 c2 f2 e1
  generalize W2.setCell ⟨p, 2, none⟩ (.int .i64 (A : Int)) = W3 at *
  have c1 := HI3.out.row.c1
  have c2 := HI3.out.row.c2
  have c6 := HI3.out.row.c6
  have x1 := HI3.out.sl.cell (i := A) (by omega)
  rw [HZ.out] at x1
  have x2 := HI3.out.wit.cell (i := k) (by rw [HD.out]; exact hk)
  have f3 := HI3.out.wit.free k
  generalize ds.getD k 0 = z0 at *
  go_still_tail 16, (by kernel_rfl)
  change wpList _ _ _ _ _ W3.drew
  have HI4 := Lib.hid HI3.out.drew
  clear HI3 c1 c2 c6 x1 x2 f3
  generalize W3.drew = W4 at *
  have x2 := HI4.out.wit.cell (i := k) (by rw [HD.out]; exact hk)
  have f3 := HI4.out.wit.free k
  generalize ds.getD k 0 = z0 at *
  go_wp2
  go_ret
  exact ⟨rfl, HN.out _ (HI4.out.setD k z)⟩

set_option maxRecDepth 100000 in
set_option maxHeartbeats 3200000 in
theorem takeRight {z : Int} (r : Slots W p most g h n t k (s ++ [z]) ds) (hn : n ≤ 140737488355328) (ht : t ≤ 1000) (hk : k < n) :
    Calls Tryz.prog 116 #[.pointer (some ⟨p, 0, none⟩), .int .i64 1, .int .i64 k] W (SlotsPost p g h most n t (k + 1) s (ds.set k z) 2 W) := by
  have C := itemsRow r hn ht (by omega)
  obtain ⟨⟨S, A, h1, h2, h3⟩, h4, h5, h6, h7, h8⟩ := r
  have hlo := h1.lo
  have hhi := h1.hi
  have hlen := h1.len
  obtain ⟨h9, h10⟩ := h1.popR
  rw [List.length_append, List.length_singleton] at C hhi h2
  have hA : A + s.length < n + t + n := by omega
  have hA2 : A + s.length ≤ 140737488355328 * 4 := by omega
  have HN := Lib.hid (fun (w3 : World) (j : SI W p g h most (n + t + n) ((A : Int) - 1) ((A + s.length : Nat) : Int) n S (ds.set k z) w3) =>
    (⟨⟨⟨S, A, h9, j.row, j.sl⟩, j.wit, by simpa using h5, h6, h7, h8⟩, j.wr⟩ : Slots w3 p most g h n t (k + 1) s (ds.set k z) ∧ Wrote (Own3 p g h) W w3))
  rw [show ((A + (s.length + 1) : Nat) : Int) = ((A + s.length : Nat) : Int) + 1 by omega] at h2
  have HI := Lib.hid (⟨h2, h3, h4, h6, h7, h8, Wrote.refl _ _⟩ : SI W p g h most (n + t + n) (((A : Nat) : Int) - 1) (((A + s.length : Nat) : Int) + 1) n S ds W)
  have HZ := Lib.hid h10
  have HD := Lib.hid h5
  clear h1 h2 h3 h4 h5 h6 h7 h8 h9 h10 hlo hhi
  generalize (A : Int) - 1 = a at *
  generalize A + s.length = b at *
  generalize s.length = m at *
  generalize n + t + n = N at *
  have i1 : (b : Int) < (N : Int) := by omega
  have i2 : (k : Int) < (n : Int) := by omega
  have m1 : ¬ (m : Int) + 1 = 0 := by omega
  have e1 : IntKind.i64.wrap ((b : Int) + 1 - 1) = (b : Int) := by rw [IntKind.wrap_i64]; omega
  go_enter Tryz.func116, Tryz.ntmps116
  go_wp2_with fail
  refine C.mono ?_
  clear C
  rintro e w2 ⟨rfl, q, rfl⟩
  have HI1 := Lib.hid (HI.out.drewN q)
  generalize W.drewN q = W1 at *
  have c4 := HI1.out.row.c4
  have c5 := HI1.out.row.c5
  have f4 := HI1.out.row.free 4
  have hl1 := HI1.out.row.lt
  go_wp2
  go_still_tail 11, (by kernel_rfl)
  change wpList _ _ _ _ _ W1.drew
  have HI2 := Lib.hid HI1.out.drew
  clear HI1 c4 c5 f4 hl1
  generalize W1.drew = W2 at *
  have c4 := HI2.out.row.c4
  have f4 := HI2.out.row.free 4
  go_wp2
  have HI3 := Lib.hid (HI2.out.setB (b : Int))
  clear HI2 c4 f4 e1
  generalize W2.setCell ⟨p, 4, none⟩ (.int .i64 (b : Int)) = W3 at *
  have c1 := HI3.out.row.c1
  have c4 := HI3.out.row.c4
  have c6 := HI3.out.row.c6
  have x1 := HI3.out.sl.cell (i := b) (by omega)
  rw [HZ.out] at x1
  have x2 := HI3.out.wit.cell (i := k) (by rw [HD.out]; exact hk)
  have f3 := HI3.out.wit.free k
  generalize ds.getD k 0 = z0 at *
  go_still_tail 16, (by kernel_rfl)
  change wpList _ _ _ _ _ W3.drew
  have HI4 := Lib.hid HI3.out.drew
  clear HI3 c1 c4 c6 x1 x2 f3
  generalize W3.drew = W4 at *
  have x2 := HI4.out.wit.cell (i := k) (by rw [HD.out]; exact hk)
  have f3 := HI4.out.wit.free k
  generalize ds.getD k 0 = z0 at *
  go_wp2
  go_ret
  exact ⟨rfl, HN.out _ (HI4.out.setD k z)⟩
end
end Go.Proofs.YtniefplgijpckaaGreat.D10
namespace Go.Proofs.YtniefplgijpckaaGreat.D10
open Go.RowKit

set_option maxRecDepth 100000 in
set_option maxHeartbeats 3200000 in
theorem mul64One (w : World) (y : Nat) (hy : y < 4294967296) :
    Calls Tryz.prog 123 #[.int .u64 1, .int .u64 y] w fun e w' => e = .returned (.tuple #[.int .u64 0, .int .u64 y]) ∧ w = w' := by
  have ha : bits .and .u64 (y : Int) 4294967295 = (y : Int) := by
    have h := bits_and_u64_nat y 4294967295 (by omega) (by omega)
    have e : y &&& 4294967295 = y := by
      have : y &&& 4294967295 = y % 4294967296 := Nat.and_two_pow_sub_one_eq_mod y 32
      rw [this]; omega
    rw [e] at h
    exact h
  have hd : (y : Int) / 4294967296 = 0 := by omega
  have hw : IntKind.u64.wrap (y : Int) = (y : Int) := by rw [IntKind.wrap_u64]; omega
  have h0 : bits .and .u64 0 4294967295 = 0 := by
    have h := bits_and_u64_nat 0 4294967295 (by omega) (by omega)
    simpa using h
  have h1 : bits .and .u64 1 4294967295 = 1 := by
    have h := bits_and_u64_nat 1 4294967295 (by omega) (by omega)
    have e : 1 &&& 4294967295 = 1 := by
      have : 1 &&& 4294967295 = 1 % 4294967296 := Nat.and_two_pow_sub_one_eq_mod 1 32
      rw [this]
    rw [e] at h
    exact h
  go_enter Tryz.func123, Tryz.ntmps123
  go_wp2
  go_ret2
  exact ⟨rfl, rfl⟩

set_option maxRecDepth 100000 in
set_option maxHeartbeats 1600000 in
theorem mulOne (w : World) (y : Nat) (hy : y < 4294967296) :
    Calls Tryz.prog 121 #[.int .u64 1, .int .u64 y] w fun e w' => e = .returned (.tuple #[.int .u64 0, .int .u64 y]) ∧ w = w' := by
  have C := mul64One w y hy
  have hw : IntKind.u64.wrap (y : Int) = (y : Int) := by rw [IntKind.wrap_u64]; omega
  go_enter Tryz.func121, Tryz.ntmps121
  go_wp2_with fail
  refine C.mono ?_
  rintro e w1 ⟨rfl, rfl⟩
  go_wp2
  go_ret2
  exact ⟨rfl, rfl⟩

theorem sizeI : (Tryz.prog.info? 3).map (·.size) = some 1 := by kernel_rfl

/-- The row, of which j places are written. -/
def repL (v : Int) (N j : Nat) : List Int := List.replicate j v ++ List.replicate (N - j) 0
theorem rep_splice (v : Int) (N j m : Nat) (h : j + m ≤ N) : splice ((repL v N j).map (Value.int .i64)) j (List.replicate m (Value.int .i64 v)) = (repL v N (j + m)).map (Value.int .i64) := by
  unfold splice repL
  rw [List.map_append, List.map_append, List.map_replicate, List.map_replicate, List.map_replicate, List.map_replicate, List.take_left' (by simp), List.length_replicate, ← List.drop_drop, List.drop_left' (by simp), List.drop_replicate, ← List.append_assoc, List.replicate_append_replicate, show N - j - m = N - (j + m) by omega]
theorem repL_length (v : Int) {N j : Nat} (h : j ≤ N) : (repL v N j).length = N := by simp [repL]; omega
theorem rep_first (v : Int) (N : Nat) : splice ((List.replicate N (0 : Int)).map (Value.int .i64)) 0 (List.replicate (Nat.min 1 N) (Value.int .i64 v)) = (repL v N (Nat.min 1 N)).map (Value.int .i64) := by
  have := rep_splice v N 0 (Nat.min 1 N) (by rw [Nat.zero_add]; exact Nat.min_le_right 1 N)
  simpa [repL] using this
/-- On the way. -/
def RepR (v : Int) (N g : Nat) (w : World) (j : Nat) (wr : World) : Prop := Rw wr g .i64 3 (repL v N j) ∧ Below w.heap.size w wr
theorem RepR.src {v : Int} {N g : Nat} {w : World} {j : Nat} {wr : World} (h : RepR v N g w j wr) (hj : j ≤ N) (m : Nat) (hm : m ≤ j) (i : Nat) (u : Value) (hu : (List.replicate m (Value.int .i64 v))[i]? = some u) : wr.cell? ((⟨g, 0, none⟩ : Addr).add i) = some u := by
  have hi : i < m := by
    have := (List.getElem?_eq_some_iff.1 hu).1
    simpa using this
  have e : u = .int .i64 v := List.eq_of_mem_replicate (List.mem_of_getElem? hu)
  have c := h.1.cell (i := i) (by rw [repL_length v hj]; omega)
  rw [e]
  have hv : (repL v N j).getD i 0 = v := by
    unfold repL
    simp [List.getD, List.getElem?_append_left (show i < (List.replicate j v).length by simp; omega), show i < j by omega]
  rw [hv] at c
  have ea : (⟨g, 0, none⟩ : Addr).add i = ⟨g, i, none⟩ := by
    unfold Addr.add
    simp
    intro h; exact h.symm
  rw [ea]
  exact c

set_option maxRecDepth 100000 in
set_option maxHeartbeats 3200000 in
theorem repeatAny (w : World) (b : Nat) (v : Int) (N : Nat) (hN : N < 4294967296) (hc : w.cell? ⟨b, 0, none⟩ = some (.int .i64 v)) :
    Calls Tryz.prog 119 #[.slice (some ⟨b, 0, none⟩) 1 1, .int .i64 N] w fun e w' => ∃ g, e = .returned (.slice (some ⟨g, 0, none⟩) N N) ∧ Rw w' g .i64 3 (List.replicate N v) ∧ w.heap.size ≤ g ∧ Below w.heap.size w w' := by
  obtain ⟨i0, hi, hz0, hz1, hz2⟩ := info_parts infoI
  have C := mulOne w N hN
  have hw : IntKind.u64.wrap (N : Int) = (N : Int) := by rw [IntKind.wrap_u64]; omega
  have hbl : b < w.heap.size := by
    by_cases h : b < w.heap.size
    · exact h
    · simp [World.cell?, show w.heap[b]? = none by simp; omega] at hc
  have n1 : (N : Int) ≤ 9223372036854775807 := by omega
  go_enter Tryz.func119, Tryz.ntmps119
  go_wp2_with fail
  refine C.mono ?_
  clear C
  rintro e w1 ⟨rfl, rfl⟩
  have hS : ∀ (w2 : World), w.grownBy w2 none → ∀ (j : Nat) (u : Value), (List.replicate (Nat.min 1 N) (Value.int .i64 v))[j]? = some u → w2.cell? ((⟨b, 0, none⟩ : Addr).add j) = some u := by
    intro w2 hg j u hu
    have hj : j < Nat.min 1 N := by
      have := (List.getElem?_eq_some_iff.1 hu).1
      simpa using this
    have h1 : Nat.min 1 N ≤ 1 := Nat.min_le_left _ _
    obtain rfl : j = 0 := by omega
    have : u = .int .i64 v := by
      have := List.mem_of_getElem? hu
      exact List.eq_of_mem_replicate this
    rw [this]
    exact hg.cell hc (by simp)
  have HC := Lib.hid hS
  have HB := Lib.hid (And.intro hbl hc)
  obtain ⟨Z, hZ⟩ : ∃ Z, Z = List.replicate (Nat.min 1 N) (Value.int .i64 v) := ⟨_, rfl⟩
  have HZ := Lib.hid hZ
  have HZ1 := Lib.hid (show Z.length = Nat.min 1 N by rw [hZ]; simp)
  have HZ2 := Lib.hid (show ∀ u ∈ Z, u.oneCell' = true from fun u hu => by rw [hZ] at hu; rw [List.eq_of_mem_replicate hu]; rfl)
  rw [← hZ] at HC
  clear hS hc hbl hZ
  go_wp2_with (first
    | (at_make; refine wpList_make_full _ rfl _ _ 73 rfl w.heap.size 3 i0 _ 1 Tryz.underlying73 hi hz0 hz1 .i64 .i64 _ _ N rfl rfl rfl rfl (by rw [hz2]; omega) (by simp only [maxLen]; omega) (Nat.le_refl _) ?_; intro w2 hown2 hgrow2; have HM := Lib.hid (madeRow (k := .i64) hown2 hgrow2); have HG := Lib.hid hgrow2; clear hown2 hgrow2)
    | (refine wpList_copy_splice rfl (.tmp 31) (.tmp 32) 73 73 rfl 3 Tryz.underlying73 sizeI _ _ _ _ _ _ rfl rfl w.heap.size 0 ((List.replicate N (0 : Int)).map (Value.int .i64)) 3 HM.out.1 Z HZ1.out (fun hp => ⟨rfl, _, rfl, HC.out _ HG.out⟩) (by rw [HZ1.out]; simp; exact Nat.min_le_right _ _) HZ2.out w.heap.size w HM.out.2 (Nat.le_refl _) ?_; intro w3 hg3 hb3))
  have HR := Lib.hid (show RepR v N w.heap.size w (Nat.min 1 N) w3 from ⟨by unfold Rw; rw [hg3.out, HZ.out, rep_first], hb3⟩)
  rw [HZ1.out]
  have hm1 : Nat.min 1 N ≤ N := Nat.min_le_right _ _
  have hm2 : 0 < N → 0 < Nat.min 1 N := fun h => Nat.lt_min.2 ⟨by omega, h⟩
  generalize Nat.min 1 N = m1 at *
  generalize hgg : w.heap.size = g at *
  clear HC HB HZ HZ1 HZ2 HM HG hg3 hb3 Z
  go_loopw [8] (fun i wr => ∃ j : Nat, j ≤ N ∧ (0 < N → 0 < j) ∧ i = .int .i64 j ∧ Hid (RepR v N g w j wr)) (fun i _ => N - (intOf i).toNat)
  case atStart => exact ⟨m1, hm1, hm2, rfl, HR⟩
  case round =>
    obtain ⟨j, hj, hj0, rfl, hp⟩ := hrel
    clear HR hm1 hm2
    by_cases hlt : j < N
    · have i1 : (j : Int) < (N : Int) := by omega
      have hj1 := hj0 (by omega)
      obtain ⟨m, hm⟩ : ∃ m, m = Nat.min j (N - j) := ⟨_, rfl⟩
      have hma : m ≤ j := by rw [hm]; exact Nat.min_le_left _ _
      have hmb : m ≤ N - j := by rw [hm]; exact Nat.min_le_right _ _
      have hmc : 0 < m := by rw [hm]; exact Nat.lt_min.2 ⟨hj1, by omega⟩
      have HM := Lib.hid hm
      have ew : IntKind.i64.wrap ((j : Int) + (m : Int)) = ((j + m : Nat) : Int) := by rw [IntKind.wrap_i64]; omega
      have hl := hp.out.1.lt
      clear hm
      go_wp2
      have HD := Lib.hid (show RepR v N g w j wr.drew from ⟨hp.out.1.below (Below.refl _ _).drew, hp.out.2.drew⟩)
      clear hp
      go_region_held_law (fun _ => True) (exact trivial) ((refine step_copy_splice rfl (.tmp 41) (.tmp 44) 73 73 rfl 3 Tryz.underlying73 sizeI _ _ _ _ _ _ rfl rfl g j ((repL v N j).map (Value.int .i64)) 3 HD.out.1 (List.replicate m (Value.int .i64 v)) (by rw [List.length_replicate, HM.out]) (fun hp0 => ⟨by rw [if_neg (show ¬ N = j by omega)], _, rfl, HD.out.src hj m hma⟩) (by rw [List.length_replicate, List.length_map, repL_length v hj]; omega) (fun u hu => by rw [List.eq_of_mem_replicate hu]; rfl) w.heap.size w HD.out.2 (by omega) ?_; intro w4 hg4 hb4))
      have HR4 := Lib.hid (show RepR v N g w (j + m) w4 from ⟨by unfold Rw; rw [hg4.out, rep_splice v N j m (by omega)], hb4⟩)
      clear hg4 hb4 HD
      go_roundw
      case rel => exact ⟨.int .i64 ((j + m : Nat) : Int), _, _, _, _, _, _, _, _, _, _, _, _, _, ⟨j + m, by omega, fun _ => by omega, rfl, HR4⟩, by rfl⟩
      case measure => clear ew; simp [intOf]; omega
    · obtain rfl : j = N := by omega
      clear hlt
      go_wp2
      go_ret
      refine ⟨g, rfl, ?_, by omega, hp.out.2⟩
      have := hp.out.1
      simpa [repL] using this

end Go.Proofs.YtniefplgijpckaaGreat.D10
namespace Go.Proofs.YtniefplgijpckaaGreat.D10
open Go.RowKit

theorem litOne (w : World) (v : Int) : ∀ W, w.alloc (.cells #[.int .i64 v] 3) = W → W.cell? ⟨w.heap.size, 0, none⟩ = some (.int .i64 v) ∧ Below w.heap.size w W := by
  rintro W rfl
  exact ⟨by go_simp, (Below.refl _ _).alloc (Nat.le_refl _) _⟩

/-- A new row. -/
def NewRow (w : World) (t : Nat) (most : Int) (n : Nat) (e : Ending) (w' : World) : Prop :=
  ∃ p g h, e = .returned (.pointer (some ⟨p, 0, none⟩)) ∧ Slots w' p most g h n t 0 (List.replicate t (-1)) (List.replicate n (-1)) ∧ w.heap.size ≤ p ∧ w.heap.size ≤ g ∧ w.heap.size ≤ h ∧ Below w.heap.size w w'

theorem newSlots {w w4 : World} {g h t n : Nat} {most : Int} (hb : Below w.heap.size w w4) (hg : w.heap.size ≤ g) (hgh : g < h) (rg : Rw w4 g .i64 3 (List.replicate (n + t + n) (-1))) (rh : Rw w4 h .i64 3 (List.replicate n (-1))) :
    NewRow w t most n (.returned (.pointer (some ⟨w4.heap.size, 0, none⟩))) (w4.alloc (.cells #[.int .i64 most, .slice (some ⟨g, 0, none⟩) (n + t + n) (n + t + n), .int .i64 ((n : Int) - 1), .int .i64 (-1), .int .i64 ((n : Int) + (t : Int)), .int .i64 1, .slice (some ⟨h, 0, none⟩) n n] 182)) := by
  have lg := rg.lt
  have lh := rh.lt
  have hs := hb.size
  refine ⟨w4.heap.size, g, h, rfl, ⟨⟨_, n, SlotsOk.start n t, ?_, rg.keep (Below.heap_alloc _ _ _ lg)⟩, rh.keep (Below.heap_alloc _ _ _ lh), by simp, by omega, by omega, by omega⟩, hs, hg, by omega, hb.alloc hs _⟩
  rw [List.length_replicate, show ((n + t : Nat) : Int) = (n : Int) + (t : Int) by omega]
  exact heap_alloc_new w4 _

set_option maxRecDepth 100000 in
set_option maxHeartbeats 3200000 in
theorem rowOfAny (w : World) (t : Nat) (most : Int) (n : Nat) (ht : t ≤ 1000) (hn : n ≤ 1000000) :
    Calls Tryz.prog 113 #[.int .i64 t, .int .i64 most, .int .i64 n] w (NewRow w t most n) := by
  have e1 : IntKind.i64.wrap ((n : Int) + (t : Int)) = ((n + t : Nat) : Int) := by rw [IntKind.wrap_i64]; omega
  have e2 : IntKind.i64.wrap (((n + t : Nat) : Int) + (n : Int)) = ((n + t + n : Nat) : Int) := by rw [IntKind.wrap_i64]; omega
  have e3 : IntKind.i64.wrap ((n : Int) - 1) = (n : Int) - 1 := by rw [IntKind.wrap_i64]; omega
  go_enter Tryz.func113, Tryz.ntmps113
  go_wp2_with fail
  generalize hW : w.alloc (.cells #[.int .i64 (-1)] 3) = W1
  obtain ⟨c1, b1⟩ := litOne w (-1) W1 hW
  clear hW
  have C := repeatAny W1 w.heap.size (-1) (n + t + n) (by omega) c1
  rw [show ((n + t + n : Nat) : Int) = (n : Int) + (t : Int) + (n : Int) by omega] at C
  refine C.mono ?_
  clear C
  rintro e w2 ⟨g, rfl, r2, g2, b2⟩
  have HB1 := Lib.hid b1
  have HB2 := Lib.hid (b1.trans (b2.mono b1.size))
  have HG := Lib.hid (show w.heap.size ≤ g from Nat.le_trans b1.size g2)
  have HR := Lib.hid r2
  clear c1 b1 b2 r2 g2
  go_wp2_with fail
  generalize hW : w2.alloc (.cells #[.int .i64 (-1)] 3) = W3
  obtain ⟨c3, b3⟩ := litOne w2 (-1) W3 hW
  clear hW
  have C := repeatAny W3 w2.heap.size (-1) n (by omega) c3
  refine C.mono ?_
  clear C
  rintro e w4 ⟨h, rfl, r4, g4, b4⟩
  have HB4 := Lib.hid (HB2.out.trans ((b3.trans (b4.mono b3.size)).mono HB2.out.size))
  have HR4 := Lib.hid (HR.out.below (b3.trans (b4.mono b3.size)))
  have HH := Lib.hid (show w2.heap.size ≤ h from Nat.le_trans b3.size g4)
  have HH4 := Lib.hid r4
  have HL := Lib.hid HR.out.lt
  clear c3 b3 b4 r4 g4 HR HB1 HB2 e2
  go_wp2
  go_ret
  exact newSlots HB4.out HG.out (Nat.lt_of_lt_of_le HL.out HH.out) HR4.out HH4.out

end Go.Proofs.YtniefplgijpckaaGreat.D10
namespace Go.Proofs.YtniefplgijpckaaGreat.D10
open Go.RowKit

section
variable {w w' : World} {g : Nat} {k v : Int}
end

end Go.Proofs.YtniefplgijpckaaGreat.D10
