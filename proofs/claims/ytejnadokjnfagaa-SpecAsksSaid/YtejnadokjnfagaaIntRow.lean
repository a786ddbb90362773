/-
  A row of ints of one's own: what it holds, what becomes of it when a cell is written. Conditions: none; no Go function is looked at here.
-/
import Derived.Test.YtejnadokjnfagaaSortPlain
import Derived.BigRegion
namespace Go.Proofs.Ytejnadokjnfagaa
open Go.RowKit

/-- The ints of a row of one's own in block g. -/
def IRow (w : World) (g n cap : Nat) (zs : List Int) : Prop := w.ownsRow 0 3 1 (.slice (some ⟨g, 0, none⟩) n cap) n (zs.map (Value.int .i64))

section
variable {w w' : World} {g n cap : Nat} {zs : List Int}
theorem IRow.len (h : IRow w g n cap zs) : zs.length = n := by have := h.1; simpa using this
theorem IRow.lt (h : IRow w g n cap zs) : g < w.heap.size := (World.ownsRow.lt h g rfl).2
theorem IRow.room (h : IRow w g n cap zs) : n ≤ cap ∧ cap ≤ maxLen := by
  rcases h.2 with ⟨h', _⟩ | ⟨g', cap', cur, h', _, _, h1, h2, _⟩
  · simp at h'
  · simp only [Value.slice.injEq] at h'
    obtain ⟨_, _, rfl⟩ := h'
    exact ⟨h1, h2⟩
theorem IRow.cell (h : IRow w g n cap zs) {i : Nat} (hi : i < n) : w.cell? ⟨g, i, none⟩ = some (.int .i64 (zs.getD i 0)) := by
  rw [World.ownsRow.cellAt h i (by omega)]
  have := h.len
  simp [List.getD, show i < zs.length by omega]
theorem IRow.free (h : IRow w g n cap zs) (i : Nat) : w.frozen? ⟨g, i, none⟩ = false := World.ownsRow.frozenAt h i
theorem IRow.set (h : IRow w g n cap zs) (i : Nat) (x : Int) : IRow (w.setCell ⟨g, i, none⟩ (.int .i64 x)) g n cap (zs.set i x) := by
  unfold IRow
  rw [List.map_set]
  exact (World.ownsRow.stored h i _).1
theorem IRow.keep (h : IRow w g n cap zs) (hb : w'.heap[g]? = w.heap[g]?) : IRow w' g n cap zs := own_keep h (fun k hk => by simp only [Value.ownBlock, Option.some.injEq] at hk; subst hk; exact hb)
theorem IRow.drewN (h : IRow w g n cap zs) (q : Nat) : IRow (w.drewN q) g n cap zs := h.keep rfl
/-- Behind the exchange's first store the second place still holds something. -/
theorem IRow.still (h : IRow w g n cap zs) {i j : Nat} (_ : i < n) (hj : j < n) (x : Int) : ∃ u, (w.setCell ⟨g, i, none⟩ (.int .i64 x)).cell? ⟨g, j, none⟩ = some u := ⟨_, (h.set i x).cell hj⟩
/-- Two that are exchanged. -/
theorem IRow.swap (h : IRow w g n cap zs) (i j : Nat) (x y : Int) : IRow ((w.setCell ⟨g, i, none⟩ (.int .i64 x)).setCell ⟨g, j, none⟩ (.int .i64 y)).drew g n cap ((zs.set i x).set j y) := ((h.set i x).set j y).drewN 1

/-- Only block g is written to. -/
abbrev At1 (g : Nat) : Nat → Prop := fun k => k = g
theorem wrote_swap (w : World) (g i j : Nat) (x y : Value) : Wrote (At1 g) w ((w.setCell ⟨g, i, none⟩ x).setCell ⟨g, j, none⟩ y).drew := (((Wrote.refl (At1 g) w).setCell (q := ⟨g, i, none⟩) (Or.inr rfl) x).setCell (q := ⟨g, j, none⟩) (Or.inr rfl) y).drew

/-- What a call that rearranges the row leaves. -/
def Rearr (w : World) (g n cap : Nat) (zs : List Int) (e : Ending) (w' : World) : Prop := e = .returned (.tuple #[]) ∧ IRow w' g n cap zs ∧ Wrote (At1 g) w w'
end

theorem getD_at (P R : List Int) (i : Nat) : (P ++ R).getD (P.length + i) 0 = R.getD i 0 := by simp only [List.getD]; rw [List.getElem?_append_right (by omega)]; simp
theorem getD_left (P R : List Int) (i : Nat) (h : i < P.length) : (P ++ R).getD i 0 = P.getD i 0 := by simp only [List.getD]; rw [List.getElem?_append_left h]
theorem getD_head (P R : List Int) (x : Int) : (P ++ x :: R).getD P.length 0 = x := by simp [List.getD]

/-- What cmp tells of two keys. -/
def cmp3 (a b : Int) : Int := if a < b then -1 else if b < a then 1 else 0
theorem cmp3_lt {a b : Int} (h : a < b) : cmp3 a b < 0 := by unfold cmp3; rw [if_pos h]; omega
theorem cmp3_ge {a b : Int} (h : ¬ a < b) : 0 ≤ cmp3 a b := by unfold cmp3; rw [if_neg h]; split <;> omega

/-- What is asked of a comparison: at any two of N numbers, in every world in which only block g was written to, it tells how their keys stand. -/
def CmpAt (key : Int → Int) (N : Int) (B g : Nat) (w : World) : Prop :=
  ∀ (W : World) (a b : Int), Wrote (At1 g) w W → 0 ≤ a → a < N → 0 ≤ b → b < N →
    Calls Try.prog 31 #[.int .i64 a, .int .i64 b, .pointer (some ⟨B, 0, none⟩)] W fun e w' => e = .returned (.int .i64 (cmp3 (key a) (key b))) ∧ ∃ q, w' = W.drewN q
theorem CmpAt.later {key : Int → Int} {N : Int} {B g : Nat} {w w' : World} (h : CmpAt key N B g w) (hw : Wrote (At1 g) w w') : CmpAt key N B g w' :=
  fun W a b hW => h W a b (hw.trans hW)

end Go.Proofs.Ytejnadokjnfagaa
