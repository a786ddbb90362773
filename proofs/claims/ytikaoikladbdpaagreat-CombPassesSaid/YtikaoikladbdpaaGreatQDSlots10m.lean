/-
  The row of package ends in the model's world: slots that hold places, two ends, and what its calls do: items, put, take. Conditions: a row as Slots says.
-/
import Derived.Test.YtikaoikladbdpaaGreatG1216
import Derived.Test.YtikaoikladbdpaaGreatG1316
namespace Go.Proofs.YtikaoikladbdpaaGreat.D10
open Go.RowKit

structure SlotsOk (S : List Int) (n t k A : Nat) (s : List Int) : Prop where
  len : S.length = n + t + n
  lo : n ≤ A + k
  hi : A + s.length ≤ n + t + k
  at_ : ∀ i, i < s.length → S.getD (A + i) 0 = s.getD i 0

section
variable {S s : List Int} {n t k A : Nat}
theorem SlotsOk.start (n t : Nat) : SlotsOk (List.replicate (n + t + n) (-1)) n t 0 n (List.replicate t (-1)) :=
  ⟨by simp, by omega, by simp, fun i hi => by
    simp only [List.length_replicate] at hi
    simp [List.getD, show n + i < n + t + n by omega, hi]⟩
theorem SlotsOk.stay (h : SlotsOk S n t k A s) : SlotsOk S n t (k + 1) A s := ⟨h.len, by have := h.lo; omega, by have := h.hi; omega, h.at_⟩
theorem SlotsOk.left (h : SlotsOk S n t k (A + 1) s) (x : Int) (hk : k < n) : SlotsOk (S.set A x) n t (k + 1) A (x :: s) := by
  obtain ⟨h1, h2, h3, h4⟩ := h
  refine ⟨by simpa using h1, by omega, by simp; omega, fun i hi => ?_⟩
  cases i with
  | zero => simpa using getD_set_same S A x (by omega)
  | succ i =>
    have := h4 i (by simpa using hi)
    rw [getD_set_other S A _ x (by omega), show A + (i + 1) = A + 1 + i by omega, this]
    simp
theorem SlotsOk.right (h : SlotsOk S n t k A s) (x : Int) (hk : k < n) : SlotsOk (S.set (A + s.length) x) n t (k + 1) A (s ++ [x]) := by
  obtain ⟨h1, h2, h3, h4⟩ := h
  refine ⟨by simpa using h1, by omega, by simp; omega, fun i hi => ?_⟩
  simp only [List.length_append, List.length_singleton] at hi
  by_cases e : i = s.length
  · subst e
    rw [getD_set_same S _ x (by omega)]
    simp [List.getD]
  · rw [getD_set_other S _ _ x (by omega), h4 i (by omega)]
    simp [List.getD, List.getElem?_append_left (show i < s.length by omega)]
theorem SlotsOk.popL {z : Int} (h : SlotsOk S n t k A (z :: s)) : SlotsOk S n t (k + 1) (A + 1) s ∧ S.getD A 0 = z := by
  obtain ⟨h1, h2, h3, h4⟩ := h
  simp only [List.length_cons] at h3 h4
  refine ⟨⟨h1, by omega, by omega, fun i hi => ?_⟩, by simpa using h4 0 (by omega)⟩
  have := h4 (i + 1) (by omega)
  rw [show A + 1 + i = A + (i + 1) by omega, this]
  simp
theorem SlotsOk.popR {z : Int} (h : SlotsOk S n t k A (s ++ [z])) : SlotsOk S n t (k + 1) A s ∧ S.getD (A + s.length) 0 = z := by
  obtain ⟨h1, h2, h3, h4⟩ := h
  simp only [List.length_append, List.length_singleton] at h3 h4
  refine ⟨⟨h1, by omega, by omega, fun i hi => ?_⟩, ?_⟩
  · rw [h4 i (by omega)]
    simp [List.getD, List.getElem?_append_left hi]
  · rw [h4 s.length (by omega)]
    simp [List.getD]
end

def RowB (w : World) (p : Nat) (most : Int) (g m : Nat) (a b : Int) (h n : Nat) : Prop :=
  w.heap[p]? = some (.cells #[.int .i64 most, .slice (some ⟨g, 0, none⟩) m m, .int .i64 a, .int .i64 (-1), .int .i64 b, .int .i64 1, .slice (some ⟨h, 0, none⟩) n n] 259 (0, 0))
section
variable {w w' : World} {p g m h n : Nat} {most a b : Int}
theorem RowB.lt (r : RowB w p most g m a b h n) : p < w.heap.size := lt_of_block r
theorem RowB.keep (r : RowB w p most g m a b h n) (hb : w'.heap[p]? = w.heap[p]?) : RowB w' p most g m a b h n := hb.trans r
theorem RowB.free (r : RowB w p most g m a b h n) (j : Nat) : w.frozen? ⟨p, j, none⟩ = false := by unfold RowB at r; simp [World.frozen?, r]
theorem RowB.c0 (r : RowB w p most g m a b h n) : w.cell? ⟨p, 0, none⟩ = some (.int .i64 most) := by unfold RowB at r; simp [World.cell?, r]
theorem RowB.c1 (r : RowB w p most g m a b h n) : w.cell? ⟨p, 1, none⟩ = some (.slice (some ⟨g, 0, none⟩) m m) := by unfold RowB at r; simp [World.cell?, r]
theorem RowB.c2 (r : RowB w p most g m a b h n) : w.cell? ⟨p, 2, none⟩ = some (.int .i64 a) := by unfold RowB at r; simp [World.cell?, r]
theorem RowB.c3 (r : RowB w p most g m a b h n) : w.cell? ⟨p, 3, none⟩ = some (.int .i64 (-1)) := by unfold RowB at r; simp [World.cell?, r]
theorem RowB.c4 (r : RowB w p most g m a b h n) : w.cell? ⟨p, 4, none⟩ = some (.int .i64 b) := by unfold RowB at r; simp [World.cell?, r]
theorem RowB.c5 (r : RowB w p most g m a b h n) : w.cell? ⟨p, 5, none⟩ = some (.int .i64 1) := by unfold RowB at r; simp [World.cell?, r]
theorem RowB.c6 (r : RowB w p most g m a b h n) : w.cell? ⟨p, 6, none⟩ = some (.slice (some ⟨h, 0, none⟩) n n) := by unfold RowB at r; simp [World.cell?, r]
theorem RowB.setA (r : RowB w p most g m a b h n) (x : Int) : RowB (w.setCell ⟨p, 2, none⟩ (.int .i64 x)) p most g m x b h n := by
  unfold RowB at r ⊢; rw [heap_setCell_same w p _ _ _ _ r]; rfl
theorem RowB.setB (r : RowB w p most g m a b h n) (x : Int) : RowB (w.setCell ⟨p, 4, none⟩ (.int .i64 x)) p most g m a x h n := by
  unfold RowB at r ⊢; rw [heap_setCell_same w p _ _ _ _ r]; rfl
end

structure Slots (W : World) (p : Nat) (most : Int) (g h n t k : Nat) (s ds : List Int) : Prop where
  row : ∃ S A, SlotsOk S n t k A s ∧ RowB W p most g (n + t + n) ((A : Int) - 1) ((A + s.length : Nat) : Int) h n ∧ Rw W g .i64 3 S
  wit : Rw W h .i64 3 ds
  dlen : ds.length = n
  ne1 : p ≠ g
  ne2 : p ≠ h
  ne3 : g ≠ h

section
variable {W W' : World} {p g h n t k : Nat} {most : Int} {s ds : List Int}
theorem Slots.fresh (r : Slots W p most g h n t k s ds) (hb : Below W.heap.size W W') : Slots W' p most g h n t k s ds := by
  obtain ⟨⟨S, A, h1, h2, h3⟩, h4, h5, h6, h7, h8⟩ := r
  exact ⟨⟨S, A, h1, h2.keep (hb.block _ h2.lt), h3.below hb⟩, h4.below hb, h5, h6, h7, h8⟩
theorem Slots.off {F : Nat → Prop} (r : Slots W p most g h n t k s ds) (hw : Wrote F W W') (n1 : ¬ F p) (n2 : ¬ F g) (n3 : ¬ F h) : Slots W' p most g h n t k s ds := by
  obtain ⟨⟨S, A, h1, h2, h3⟩, h4, h5, h6, h7, h8⟩ := r
  exact ⟨⟨S, A, h1, h2.keep (hw.block _ h2.lt n1), h3.keep (hw.block _ h3.lt n2)⟩, h4.keep (hw.block _ h4.lt n3), h5, h6, h7, h8⟩
theorem Slots.stay (r : Slots W p most g h n t k s ds) : Slots W p most g h n t (k + 1) s ds := by
  obtain ⟨⟨S, A, h1, h2, h3⟩, h4, h5, h6, h7, h8⟩ := r
  exact ⟨⟨S, A, h1.stay, h2, h3⟩, h4, h5, h6, h7, h8⟩

def Own3 (p g h : Nat) : Nat → Prop := fun x => x = p ∨ x = g ∨ x = h

set_option maxRecDepth 100000 in
set_option maxHeartbeats 1600000 in
theorem itemsRow (r : Slots W p most g h n t k s ds) (hn : n ≤ 140737488355328) (ht : t ≤ 1000) (hk : k ≤ n) :
    Calls Tryz.prog 201 #[.pointer (some ⟨p, 0, none⟩)] W fun e w' => e = .returned (.int .i64 s.length) ∧ ∃ q, w' = W.drewN q := by
  obtain ⟨⟨S, A, h1, h2, h3⟩, h4, h5, h6, h7, h8⟩ := r
  have c2 := h2.c2
  have c4 := h2.c4
  have hl := h2.lt
  have ha : A + s.length ≤ 140737488355328 * 4 := by
    have := h1.hi
    omega
  have hab : ((A + s.length : Nat) : Int) - ((A : Int) - 1) = (s.length : Int) + 1 := by omega
  have hm : s.length ≤ 140737488355328 * 4 := by omega
  clear h1 h2 h3 h4 h5 h6 h7 h8 ha
  generalize ((A + s.length : Nat) : Int) = b at *
  generalize (A : Int) - 1 = a at *
  generalize s.length = m at *
  have e1 : IntKind.i64.wrap (b - a) = (m : Int) + 1 := by rw [IntKind.wrap_i64]; omega
  have e2 : IntKind.i64.wrap ((m : Int) + 1 - 1) = (m : Int) := by rw [IntKind.wrap_i64]; omega
  clear hab
  go_enter Tryz.func201, Tryz.ntmps201
  go_wp2
  go_quiet (fail)
  go_wp2
  go_ret
  exact ⟨rfl, _, rfl⟩

set_option maxRecDepth 100000 in
set_option maxHeartbeats 1600000 in
theorem putFull (r : Slots W p most g h n t k s ds) (hn : n ≤ 140737488355328) (ht : t ≤ 1000) (hk : k ≤ n) (hf : ¬ (s.length : Int) < most) (side place : Int) :
    Calls Tryz.prog 196 #[.pointer (some ⟨p, 0, none⟩), .int .i64 side, .int .i64 place] W fun e w' => e = .returned (.int .u8 3) ∧ Below W.heap.size W w' := by
  obtain ⟨⟨S, A, h1, h2, h3⟩, h4, h5, h6, h7, h8⟩ := id r
  have c0 := h2.c0
  have hl := h2.lt
  have P := fun q => itemsRow (r.fresh (below_drewN (Below.refl _ _) q)) hn ht hk
  clear h1 h2 h3 h4 h5 h6 h7 h8 r
  generalize s.length = m at *
  go_enter Tryz.func196, Tryz.ntmps196
  go_wp2
  go_quiet ((go_at_call 201; exact Calls.quiet_of (P _)))
  go_wp2
  go_ret
  exact ⟨rfl, below_drewN (Below.refl _ _) _⟩

def SlotsPost (p g h : Nat) (most : Int) (n t k : Nat) (s ds : List Int) (c : Int) (W : World) (e : Ending) (w' : World) : Prop :=
  e = .returned (.int .u8 c) ∧ Slots w' p most g h n t k s ds ∧ Wrote (Own3 p g h) W w'

structure SI (W0 : World) (p g h : Nat) (most : Int) (N : Nat) (a b : Int) (n : Nat) (S ds : List Int) (W : World) : Prop where
  row : RowB W p most g N a b h n
  sl : Rw W g .i64 3 S
  wit : Rw W h .i64 3 ds
  ne1 : p ≠ g
  ne2 : p ≠ h
  ne3 : g ≠ h
  wr : Wrote (Own3 p g h) W0 W
section
variable {W0 : World} {N : Nat} {a b : Int} {S : List Int}
theorem SI.fresh (r : SI W0 p g h most N a b n S ds W) (hb : Below W.heap.size W W') : SI W0 p g h most N a b n S ds W' := by
  obtain ⟨h1, h2, h3, h4, h5, h6, h7⟩ := r
  exact ⟨h1.keep (hb.block _ h1.lt), h2.below hb, h3.below hb, h4, h5, h6, h7.trans (Wrote.of hb _)⟩
theorem SI.drewN (r : SI W0 p g h most N a b n S ds W) (q : Nat) : SI W0 p g h most N a b n S ds (W.drewN q) := r.fresh (below_drewN (Below.refl _ _) q)
theorem SI.drew (r : SI W0 p g h most N a b n S ds W) : SI W0 p g h most N a b n S ds W.drew := r.fresh (Below.refl _ _).drew
theorem SI.setS (r : SI W0 p g h most N a b n S ds W) (i : Nat) (x : Int) : SI W0 p g h most N a b n (S.set i x) ds (W.setCell ⟨g, i, none⟩ (.int .i64 x)) := by
  obtain ⟨h1, h2, h3, h4, h5, h6, h7⟩ := r
  exact ⟨h1.keep (Below.heap_setCell _ _ _ _ h4), h2.set i x, h3.keep (Below.heap_setCell _ _ _ _ (fun e => h6 e.symm)), h4, h5, h6, h7.setCell (.inr (.inr (.inl rfl))) _⟩
theorem SI.setD (r : SI W0 p g h most N a b n S ds W) (i : Nat) (x : Int) : SI W0 p g h most N a b n S (ds.set i x) (W.setCell ⟨h, i, none⟩ (.int .i64 x)) := by
  obtain ⟨h1, h2, h3, h4, h5, h6, h7⟩ := r
  exact ⟨h1.keep (Below.heap_setCell _ _ _ _ h5), h2.keep (Below.heap_setCell _ _ _ _ h6), h3.set i x, h4, h5, h6, h7.setCell (.inr (.inr (.inr rfl))) _⟩
theorem SI.setA (r : SI W0 p g h most N a b n S ds W) (x : Int) : SI W0 p g h most N x b n S ds (W.setCell ⟨p, 2, none⟩ (.int .i64 x)) := by
  obtain ⟨h1, h2, h3, h4, h5, h6, h7⟩ := r
  exact ⟨h1.setA x, h2.keep (Below.heap_setCell _ _ _ _ (fun e => h4 e.symm)), h3.keep (Below.heap_setCell _ _ _ _ (fun e => h5 e.symm)), h4, h5, h6, h7.setCell (.inr (.inl rfl)) _⟩
theorem SI.setB (r : SI W0 p g h most N a b n S ds W) (x : Int) : SI W0 p g h most N a x n S ds (W.setCell ⟨p, 4, none⟩ (.int .i64 x)) := by
  obtain ⟨h1, h2, h3, h4, h5, h6, h7⟩ := r
  exact ⟨h1.setB x, h2.keep (Below.heap_setCell _ _ _ _ (fun e => h4 e.symm)), h3.keep (Below.heap_setCell _ _ _ _ (fun e => h5 e.symm)), h4, h5, h6, h7.setCell (.inr (.inl rfl)) _⟩
end

set_option maxRecDepth 100000 in
set_option maxHeartbeats 3200000 in
theorem putLeft (r : Slots W p most g h n t k s ds) (hn : n ≤ 140737488355328) (ht : t ≤ 1000) (hk : k < n) (hf : (s.length : Int) < most) :
    Calls Tryz.prog 196 #[.pointer (some ⟨p, 0, none⟩), .int .i64 0, .int .i64 k] W (SlotsPost p g h most n t (k + 1) (k :: s) ds 1 W) := by
  obtain ⟨⟨S, A, h1, h2, h3⟩, h4, h5, h6, h7, h8⟩ := id r
  have c0 := h2.c0
  have hl := h2.lt
  have P := fun q => itemsRow (r.fresh (below_drewN (Below.refl _ _) q)) hn ht (by omega)
  have hlo := h1.lo
  obtain ⟨A, rfl⟩ : ∃ A', A = A' + 1 := ⟨A - 1, by omega⟩
  have hhi := h1.hi
  have hlen := h1.len
  have hA : A < n + t + n := by omega
  have hA2 : A ≤ 140737488355328 * 4 := by omega
  have e0 : ((A + 1 : Nat) : Int) - 1 = (A : Int) := by omega
  rw [e0] at h2
  have HN := Lib.hid (fun (w3 : World) (j : SI W p g h most (n + t + n) (((A : Nat) : Int) - 1) ((A + 1 + s.length : Nat) : Int) n (S.set A k) ds w3) =>
    (⟨⟨⟨S.set A k, A, h1.left k hk, by rw [show A + ((k : Int) :: s).length = A + 1 + s.length by simp; omega]; exact j.row, j.sl⟩, j.wit, h5, h6, h7, h8⟩, j.wr⟩ : Slots w3 p most g h n t (k + 1) (k :: s) ds ∧ Wrote (Own3 p g h) W w3))
  have HI := Lib.hid (⟨h2, h3, h4, h6, h7, h8, Wrote.refl _ _⟩ : SI W p g h most (n + t + n) (A : Int) ((A + 1 + s.length : Nat) : Int) n S ds W)
  clear h1 h2 h3 h4 h5 h6 h7 h8 r hlo hhi e0
  generalize ((A + 1 + s.length : Nat) : Int) = b at *
  generalize s.length = m at *
  generalize n + t + n = N at *
  have i1 : (A : Int) < (N : Int) := by omega
  have e1 : IntKind.i64.wrap ((A : Int) + -1) = (A : Int) - 1 := by rw [IntKind.wrap_i64]; omega
  go_enter Tryz.func196, Tryz.ntmps196
  go_wp2
  go_quiet ((go_at_call 201; exact Calls.quiet_of (P _)))
  clear P c0
  have HI1 := Lib.hid (HI.out.drewN nq)
  generalize W.drewN nq = W1 at *
  have c1 := HI1.out.row.c1
  have c2 := HI1.out.row.c2
  have hl1 := HI1.out.row.lt
  go_wp2
  go_still_tail 10, (by kernel_rfl)
  change wpList _ _ _ _ _ W1.drew
  have HI2 := Lib.hid HI1.out.drew
  clear HI1 c1 c2 hl1
  generalize W1.drew = W2 at *
  have x1 := HI2.out.sl.cell (i := A) (by omega)
  have f1 := HI2.out.sl.free A
  generalize S.getD A 0 = z at *
  go_wp2
  have HI3 := Lib.hid (HI2.out.setS A (k : Int))
  clear HI2 x1 f1
  generalize W2.setCell ⟨g, A, none⟩ (.int .i64 (k : Int)) = W3 at *
  have c2 := HI3.out.row.c2
  have c3 := HI3.out.row.c3
  have f2 := HI3.out.row.free 2
  go_still_tail 11, (by kernel_rfl)
  change wpList _ _ _ _ _ W3.drew
  have HI4 := Lib.hid HI3.out.drew
  clear HI3 c2 c3 f2
  generalize W3.drew = W4 at *
  have c2 := HI4.out.row.c2
  have f2 := HI4.out.row.free 2
  go_wp2
  go_ret
  exact ⟨rfl, HN.out _ (HI4.out.setA _)⟩

set_option maxRecDepth 100000 in
set_option maxHeartbeats 3200000 in
theorem putRight (r : Slots W p most g h n t k s ds) (hn : n ≤ 140737488355328) (ht : t ≤ 1000) (hk : k < n) (hf : (s.length : Int) < most) :
    Calls Tryz.prog 196 #[.pointer (some ⟨p, 0, none⟩), .int .i64 1, .int .i64 k] W (SlotsPost p g h most n t (k + 1) (s ++ [(k : Int)]) ds 1 W) := by
  obtain ⟨⟨S, A, h1, h2, h3⟩, h4, h5, h6, h7, h8⟩ := id r
  have c0 := h2.c0
  have hl := h2.lt
  have P := fun q => itemsRow (r.fresh (below_drewN (Below.refl _ _) q)) hn ht (by omega)
  have hlo := h1.lo
  have hhi := h1.hi
  have hlen := h1.len
  have hA : A + s.length < n + t + n := by omega
  have hA2 : A + s.length ≤ 140737488355328 * 4 := by omega
  have HN := Lib.hid (fun (w3 : World) (j : SI W p g h most (n + t + n) (((A : Nat) : Int) - 1) ((A + s.length : Nat) + 1 : Int) n (S.set (A + s.length) k) ds w3) =>
    (⟨⟨⟨S.set (A + s.length) k, A, h1.right k hk, by rw [show ((A + (s ++ [(k : Int)]).length : Nat) : Int) = ((A + s.length : Nat) : Int) + 1 by simp; omega]; exact j.row, j.sl⟩, j.wit, h5, h6, h7, h8⟩, j.wr⟩ : Slots w3 p most g h n t (k + 1) (s ++ [(k : Int)]) ds ∧ Wrote (Own3 p g h) W w3))
  have HI := Lib.hid (⟨h2, h3, h4, h6, h7, h8, Wrote.refl _ _⟩ : SI W p g h most (n + t + n) (((A : Nat) : Int) - 1) ((A + s.length : Nat) : Int) n S ds W)
  clear h1 h2 h3 h4 h5 h6 h7 h8 r hlo hhi
  generalize ((A : Nat) : Int) - 1 = a at *
  generalize A + s.length = b at *
  generalize s.length = m at *
  generalize n + t + n = N at *
  have i1 : (b : Int) < (N : Int) := by omega
  have e1 : IntKind.i64.wrap ((b : Int) + 1) = (b : Int) + 1 := by rw [IntKind.wrap_i64]; omega
  go_enter Tryz.func196, Tryz.ntmps196
  go_wp2
  go_quiet ((go_at_call 201; exact Calls.quiet_of (P _)))
  clear P c0
  have HI1 := Lib.hid (HI.out.drewN nq)
  generalize W.drewN nq = W1 at *
  have c1 := HI1.out.row.c1
  have c4 := HI1.out.row.c4
  have hl1 := HI1.out.row.lt
  go_wp2
  go_still_tail 10, (by kernel_rfl)
  change wpList _ _ _ _ _ W1.drew
  have HI2 := Lib.hid HI1.out.drew
  clear HI1 c1 c4 hl1
  generalize W1.drew = W2 at *
  have x1 := HI2.out.sl.cell (i := b) (by omega)
  have f1 := HI2.out.sl.free b
  generalize S.getD b 0 = z at *
  go_wp2
  have HI3 := Lib.hid (HI2.out.setS b (k : Int))
  clear HI2 x1 f1
  generalize W2.setCell ⟨g, b, none⟩ (.int .i64 (k : Int)) = W3 at *
  have c4 := HI3.out.row.c4
  have c5 := HI3.out.row.c5
  have f4 := HI3.out.row.free 4
  go_still_tail 11, (by kernel_rfl)
  change wpList _ _ _ _ _ W3.drew
  have HI4 := Lib.hid HI3.out.drew
  clear HI3 c4 c5 f4
  generalize W3.drew = W4 at *
  have c4 := HI4.out.row.c4
  have f4 := HI4.out.row.free 4
  go_wp2
  go_ret
  exact ⟨rfl, HN.out _ (HI4.out.setB _)⟩

set_option maxRecDepth 100000 in
set_option maxHeartbeats 1600000 in
theorem takeNone (r : Slots W p most g h n t k [] ds) (hn : n ≤ 140737488355328) (ht : t ≤ 1000) (hk : k ≤ n) (side place : Int) :
    Calls Tryz.prog 197 #[.pointer (some ⟨p, 0, none⟩), .int .i64 side, .int .i64 place] W fun e w' => e = .returned (.int .u8 4) ∧ Below W.heap.size W w' := by
  have C := itemsRow r hn ht hk
  clear r
  simp only [List.length_nil] at C
  go_enter Tryz.func197, Tryz.ntmps197
  go_wp2_with fail
  refine C.mono ?_
  rintro e w2 ⟨rfl, q, rfl⟩
  go_wp2
  go_ret
  exact ⟨rfl, below_drewN (Below.refl _ _) _⟩

set_option maxRecDepth 100000 in
set_option maxHeartbeats 3200000 in
theorem takeLeft {z : Int} (r : Slots W p most g h n t k (z :: s) ds) (hn : n ≤ 140737488355328) (ht : t ≤ 1000) (hk : k < n) :
    Calls Tryz.prog 197 #[.pointer (some ⟨p, 0, none⟩), .int .i64 0, .int .i64 k] W (SlotsPost p g h most n t (k + 1) s (ds.set k z) 2 W) := by
  have C := itemsRow r hn ht (by omega)
  obtain ⟨⟨S, A, h1, h2, h3⟩, h4, h5, h6, h7, h8⟩ := r
  have hlo := h1.lo
  have hhi := h1.hi
  have hlen := h1.len
  obtain ⟨h9, h10⟩ := h1.popL
  simp only [List.length_cons] at C hhi h2
  have hA : A < n + t + n := by omega
  have hA2 : A ≤ 140737488355328 * 4 := by omega
  have HN := Lib.hid (fun (w3 : World) (j : SI W p g h most (n + t + n) (A : Int) ((A + (s.length + 1) : Nat) : Int) n S (ds.set k z) w3) =>
    (⟨⟨⟨S, A + 1, h9, by rw [show ((A + 1 : Nat) : Int) - 1 = (A : Int) by omega, show A + 1 + s.length = A + (s.length + 1) by omega]; exact j.row, j.sl⟩, j.wit, by simpa using h5, h6, h7, h8⟩, j.wr⟩ : Slots w3 p most g h n t (k + 1) s (ds.set k z) ∧ Wrote (Own3 p g h) W w3))
  have HI := Lib.hid (⟨h2, h3, h4, h6, h7, h8, Wrote.refl _ _⟩ : SI W p g h most (n + t + n) (((A : Nat) : Int) - 1) ((A + (s.length + 1) : Nat) : Int) n S ds W)
  have HZ := Lib.hid h10
  have HD := Lib.hid h5
  clear h1 h2 h3 h4 h5 h6 h7 h8 h9 h10 hlo hhi
  generalize ((A + (s.length + 1) : Nat) : Int) = b at *
  generalize s.length = m at *
  generalize n + t + n = N at *
  have i1 : (A : Int) < (N : Int) := by omega
  have i2 : (k : Int) < (n : Int) := by omega
  have m1 : ¬ (m : Int) + 1 = 0 := by omega
  have e1 : IntKind.i64.wrap ((A : Int) - 1 + 1) = (A : Int) := by rw [IntKind.wrap_i64]; omega
  generalize he : (A : Int) - 1 = a at *
  clear he
  go_enter Tryz.func197, Tryz.ntmps197
  go_wp2_with fail
  refine C.mono ?_
  clear C
  rintro e w2 ⟨rfl, q, rfl⟩
  have HI1 := Lib.hid (HI.out.drewN q)
  generalize W.drewN q = W1 at *
  have c2 := HI1.out.row.c2
  have c3 := HI1.out.row.c3
  have f2 := HI1.out.row.free 2
  have hl1 := HI1.out.row.lt
  go_wp2
  go_still_tail 11, (by kernel_rfl)
  change wpList _ _ _ _ _ W1.drew
  have HI2 := Lib.hid HI1.out.drew
  clear HI1 c2 c3 f2 hl1
  generalize W1.drew = W2 at *
  have c2 := HI2.out.row.c2
  have f2 := HI2.out.row.free 2
  go_wp2
  have HI3 := Lib.hid (HI2.out.setA (A : Int))
  clear HI2 c2 f2 e1
  generalize W2.setCell ⟨p, 2, none⟩ (.int .i64 (A : Int)) = W3 at *
  have c1 := HI3.out.row.c1
  have c2 := HI3.out.row.c2
  have c6 := HI3.out.row.c6
  have x1 := HI3.out.sl.cell (i := A) (by omega)
  rw [HZ.out] at x1
  have x2 := HI3.out.wit.cell (i := k) (by rw [HD.out]; exact hk)
  have f3 := HI3.out.wit.free k
  generalize ds.getD k 0 = z0 at *
  go_still_tail 16, (by kernel_rfl)
  change wpList _ _ _ _ _ W3.drew
  have HI4 := Lib.hid HI3.out.drew
  clear HI3 c1 c2 c6 x1 x2 f3
  generalize W3.drew = W4 at *
  have x2 := HI4.out.wit.cell (i := k) (by rw [HD.out]; exact hk)
  have f3 := HI4.out.wit.free k
  generalize ds.getD k 0 = z0 at *
  go_wp2
  go_ret
  exact ⟨rfl, HN.out _ (HI4.out.setD k z)⟩

set_option maxRecDepth 100000 in
set_option maxHeartbeats 3200000 in
theorem takeRight {z : Int} (r : Slots W p most g h n t k (s ++ [z]) ds) (hn : n ≤ 140737488355328) (ht : t ≤ 1000) (hk : k < n) :
    Calls Tryz.prog 197 #[.pointer (some ⟨p, 0, none⟩), .int .i64 1, .int .i64 k] W (SlotsPost p g h most n t (k + 1) s (ds.set k z) 2 W) := by
  have C := itemsRow r hn ht (by omega)
  obtain ⟨⟨S, A, h1, h2, h3⟩, h4, h5, h6, h7, h8⟩ := r
  have hlo := h1.lo
  have hhi := h1.hi
  have hlen := h1.len
  obtain ⟨h9, h10⟩ := h1.popR
  rw [List.length_append, List.length_singleton] at C hhi h2
  have hA : A + s.length < n + t + n := by omega
  have hA2 : A + s.length ≤ 140737488355328 * 4 := by omega
  have HN := Lib.hid (fun (w3 : World) (j : SI W p g h most (n + t + n) ((A : Int) - 1) ((A + s.length : Nat) : Int) n S (ds.set k z) w3) =>
    (⟨⟨⟨S, A, h9, j.row, j.sl⟩, j.wit, by simpa using h5, h6, h7, h8⟩, j.wr⟩ : Slots w3 p most g h n t (k + 1) s (ds.set k z) ∧ Wrote (Own3 p g h) W w3))
  rw [show ((A + (s.length + 1) : Nat) : Int) = ((A + s.length : Nat) : Int) + 1 by omega] at h2
  have HI := Lib.hid (⟨h2, h3, h4, h6, h7, h8, Wrote.refl _ _⟩ : SI W p g h most (n + t + n) (((A : Nat) : Int) - 1) (((A + s.length : Nat) : Int) + 1) n S ds W)
  have HZ := Lib.hid h10
  have HD := Lib.hid h5
  clear h1 h2 h3 h4 h5 h6 h7 h8 h9 h10 hlo hhi
  generalize (A : Int) - 1 = a at *
  generalize A + s.length = b at *
  generalize s.length = m at *
  generalize n + t + n = N at *
  have i1 : (b : Int) < (N : Int) := by omega
  have i2 : (k : Int) < (n : Int) := by omega
  have m1 : ¬ (m : Int) + 1 = 0 := by omega
  have e1 : IntKind.i64.wrap ((b : Int) + 1 - 1) = (b : Int) := by rw [IntKind.wrap_i64]; omega
  go_enter Tryz.func197, Tryz.ntmps197
  go_wp2_with fail
  refine C.mono ?_
  clear C
  rintro e w2 ⟨rfl, q, rfl⟩
  have HI1 := Lib.hid (HI.out.drewN q)
  generalize W.drewN q = W1 at *
  have c4 := HI1.out.row.c4
  have c5 := HI1.out.row.c5
  have f4 := HI1.out.row.free 4
  have hl1 := HI1.out.row.lt
  go_wp2
  go_still_tail 11, (by kernel_rfl)
  change wpList _ _ _ _ _ W1.drew
  have HI2 := Lib.hid HI1.out.drew
  clear HI1 c4 c5 f4 hl1
  generalize W1.drew = W2 at *
  have c4 := HI2.out.row.c4
  have f4 := HI2.out.row.free 4
  go_wp2
  have HI3 := Lib.hid (HI2.out.setB (b : Int))
  clear HI2 c4 f4 e1
  generalize W2.setCell ⟨p, 4, none⟩ (.int .i64 (b : Int)) = W3 at *
  have c1 := HI3.out.row.c1
  have c4 := HI3.out.row.c4
  have c6 := HI3.out.row.c6
  have x1 := HI3.out.sl.cell (i := b) (by omega)
  rw [HZ.out] at x1
  have x2 := HI3.out.wit.cell (i := k) (by rw [HD.out]; exact hk)
  have f3 := HI3.out.wit.free k
  generalize ds.getD k 0 = z0 at *
  go_still_tail 16, (by kernel_rfl)
  change wpList _ _ _ _ _ W3.drew
  have HI4 := Lib.hid HI3.out.drew
  clear HI3 c1 c4 c6 x1 x2 f3
  generalize W3.drew = W4 at *
  have x2 := HI4.out.wit.cell (i := k) (by rw [HD.out]; exact hk)
  have f3 := HI4.out.wit.free k
  generalize ds.getD k 0 = z0 at *
  go_wp2
  go_ret
  exact ⟨rfl, HN.out _ (HI4.out.setD k z)⟩
end
end Go.Proofs.YtikaoikladbdpaaGreat.D10
