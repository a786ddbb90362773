/-
  The document's stack of places, in plain lists: those that were there are -1; three rows of one's own side by side. Conditions: none; no Go function is looked at here.
-/
import Derived.Test.YtephmkekgmpnpaaKnow9
namespace Go.Proofs.Ytephmkekgmpnpaa
open Go.RowKit

/-- The stack of places that a line speaks of. -/
def srow (s : Int × List Int) : List Int := List.replicate s.1.toNat (-1) ++ s.2
section
variable {most there t : Int} {ps : List Int} {k kind : Int}
theorem srow_len (h : 0 ≤ t) : ((srow (t, ps)).length : Int) = t + ps.length := by simp [srow]; omega
theorem srow_push (h0 : 0 ≤ t) (hf : ((srow (t, ps)).length : Int) < most) : srow (lineStep most (t, ps) k 1) = srow (t, ps) ++ [k] ∧ lineC most (t, ps) 1 = 1 ∧ lineP (t, ps) 1 = -1 := by
  rw [srow_len h0] at hf
  simp [lineStep, lineC, lineP, hf, srow]
theorem srow_full (h0 : 0 ≤ t) (hf : ¬ ((srow (t, ps)).length : Int) < most) : srow (lineStep most (t, ps) k 1) = srow (t, ps) ∧ lineC most (t, ps) 1 = 3 ∧ lineP (t, ps) 1 = -1 := by
  rw [srow_len h0] at hf
  simp [lineStep, lineC, lineP, hf]
theorem srow_none (h0 : 0 ≤ t) (he : srow (t, ps) = []) : srow (lineStep most (t, ps) k 2) = [] ∧ lineC most (t, ps) 2 = 4 ∧ lineP (t, ps) 2 = -1 := by
  have hl := srow_len (ps := ps) h0
  rw [he] at hl
  have hp : ps = [] := List.eq_nil_of_length_eq_zero (by simp at hl; omega)
  subst hp
  obtain rfl : t = 0 := by simp at hl; omega
  simp [lineStep, lineC, lineP, srow]
theorem srow_pop (h0 : 0 ≤ t) {l : List Int} {z : Int} (he : srow (t, ps) = l ++ [z]) : srow (lineStep most (t, ps) k 2) = l ∧ lineC most (t, ps) 2 = 2 ∧ lineP (t, ps) 2 = z := by
  rcases List.eq_nil_or_concat ps with e | ⟨ys, j, e⟩
  · subst e
    have hl := srow_len (ps := []) h0
    rw [he] at hl
    simp at hl
    obtain ⟨m, rfl⟩ : ∃ m : Nat, t = ((m + 1 : Nat) : Int) := ⟨t.toNat - 1, by omega⟩
    have e2 : ((m + 1 : Nat) : Int).toNat = m + 1 := by omega
    have e1 : (((m + 1 : Nat) : Int) - 1).toNat = m := by omega
    unfold srow at he
    simp only [e2, List.append_nil, List.replicate_succ'] at he
    obtain ⟨ha, hb⟩ := List.append_inj' he rfl
    have ht : 0 < ((m + 1 : Nat) : Int) := by omega
    refine ⟨?_, ?_, ?_⟩
    · simp only [lineStep, if_neg (show ¬ (2 : Int) = 1 by omega), if_true, if_pos ht, srow, e1, List.append_nil]
      exact ha
    · simp only [lineC, if_neg (show ¬ (2 : Int) = 1 by omega), if_true, if_pos ht]
    · simp only [lineP, if_true, List.getLastD_nil]
      simpa using hb
  · rw [List.concat_eq_append] at e
    subst e
    unfold srow at he
    simp only at he
    rw [← List.append_assoc] at he
    obtain ⟨ha, hb⟩ := List.append_inj' he rfl
    obtain rfl : j = z := by simpa using hb
    refine ⟨?_, by simp [lineC], by simp [lineP]⟩
    simp [lineStep, srow, ← ha]
theorem srow_bad (h1 : kind ≠ 1) (h2 : kind ≠ 2) : srow (lineStep most (t, ps) k kind) = srow (t, ps) ∧ lineC most (t, ps) kind = 5 ∧ lineP (t, ps) kind = -1 := by
  simp [lineStep, lineC, lineP, h1, h2]
end

/-- No block is both ones'. -/
def Off2 (v v' : Value) : Prop := ∀ g, v.ownBlock = some g → v'.ownBlock ≠ some g
theorem Off2.symm {v v' : Value} (h : Off2 v v') : Off2 v' v := fun g a b => h g b a
theorem Off2.nil (v : Value) : Off2 (.slice none 0 0) v := fun g h => by simp [Value.ownBlock] at h

/-- Three rows of one's own, none of which lies in another one's block. -/
structure R3 (B : Nat) (w0 : World) (v1 v2 v3 : Value) (l1 l2 l3 : List Int) (W : World) : Prop where
  o1 : W.ownsRow B 3 1 v1 l1.length (l1.map (Value.int .i64))
  o2 : W.ownsRow B 3 1 v2 l2.length (l2.map (Value.int .i64))
  o3 : W.ownsRow B 5 1 v3 l3.length (l3.map (Value.int .u8))
  d12 : Off2 v1 v2
  d13 : Off2 v1 v3
  d23 : Off2 v2 v3
  b : Below B w0 W
  s : B ≤ W.heap.size

section
variable {B : Nat} {w0 W W' : World} {v1 v2 v3 v' : Value} {l1 l2 l3 : List Int} {x : Int} {o : Obj}
theorem R3.start (w : World) : R3 w.heap.size w (.slice none 0 0) (.slice none 0 0) (.slice none 0 0) [] [] [] w :=
  ⟨World.ownsRow_nil _ _ _ _, World.ownsRow_nil _ _ _ _, World.ownsRow_nil _ _ _ _, Off2.nil _, Off2.nil _, Off2.nil _, Below.refl _ _, Nat.le_refl _⟩
theorem R3.alloc (h : R3 B w0 v1 v2 v3 l1 l2 l3 W) (o : Obj) : R3 B w0 v1 v2 v3 l1 l2 l3 (W.alloc o) :=
  ⟨h.o1.alloc _, h.o2.alloc _, h.o3.alloc _, h.d12, h.d13, h.d23, h.b.alloc h.s _, Nat.le_trans h.s (by simp)⟩
theorem grown_keep {n : Nat} {e : TypeId} {v u : Value} {ys : List Value} (hg : W.grownBy W' v.ownBlock) (hu : W.ownsRow B e 1 u n ys) (hd : Off2 v u) : W'.ownsRow B e 1 u n ys :=
  own_keep hu (fun g hg' => hg.block g (hu.lt g hg').2 (fun e => hd g e.symm hg'))
theorem grown_off {n : Nat} {e : TypeId} {v u v' : Value} {ys : List Value} (hl : ∀ g, v'.ownBlock = some g → v.ownBlock = some g ∨ W.heap.size ≤ g) (hu : W.ownsRow B e 1 u n ys) (hd : Off2 v u) : Off2 v' u := fun g a b => by
  rcases hl g a with h | h
  · exact hd g h b
  · have := (hu.lt g b).2; omega
theorem R3.app1 (h : R3 B w0 v1 v2 v3 l1 l2 l3 W) (ho : W'.ownsRow B 3 1 v' (l1.length + 1) (l1.map (Value.int .i64) ++ [.int .i64 x])) (hg : W.grownBy W' v1.ownBlock) (hl : ∀ g, v'.ownBlock = some g → v1.ownBlock = some g ∨ W.heap.size ≤ g) : R3 B w0 v' v2 v3 (l1 ++ [x]) l2 l3 W' :=
  ⟨by simpa using ho, grown_keep hg h.o2 h.d12, grown_keep hg h.o3 h.d13, grown_off hl h.o2 h.d12, grown_off hl h.o3 h.d13, h.d23, h.b.grown hg h.s (fun k e => (h.o1.lt k e).1), Nat.le_trans h.s hg.size⟩
theorem R3.app2 (h : R3 B w0 v1 v2 v3 l1 l2 l3 W) (ho : W'.ownsRow B 3 1 v' (l2.length + 1) (l2.map (Value.int .i64) ++ [.int .i64 x])) (hg : W.grownBy W' v2.ownBlock) (hl : ∀ g, v'.ownBlock = some g → v2.ownBlock = some g ∨ W.heap.size ≤ g) : R3 B w0 v1 v' v3 l1 (l2 ++ [x]) l3 W' :=
  ⟨grown_keep hg h.o1 h.d12.symm, by simpa using ho, grown_keep hg h.o3 h.d23, (grown_off hl h.o1 h.d12.symm).symm, h.d13, grown_off hl h.o3 h.d23, h.b.grown hg h.s (fun k e => (h.o2.lt k e).1), Nat.le_trans h.s hg.size⟩
theorem R3.app3 (h : R3 B w0 v1 v2 v3 l1 l2 l3 W) (ho : W'.ownsRow B 5 1 v' (l3.length + 1) (l3.map (Value.int .u8) ++ [.int .u8 x])) (hg : W.grownBy W' v3.ownBlock) (hl : ∀ g, v'.ownBlock = some g → v3.ownBlock = some g ∨ W.heap.size ≤ g) : R3 B w0 v1 v2 v' l1 l2 (l3 ++ [x]) W' :=
  ⟨grown_keep hg h.o1 h.d13.symm, grown_keep hg h.o2 h.d23.symm, by simpa using ho, h.d12, (grown_off hl h.o1 h.d13.symm).symm, (grown_off hl h.o2 h.d23.symm).symm, h.b.grown hg h.s (fun k e => (h.o3.lt k e).1), Nat.le_trans h.s hg.size⟩
theorem R3.cut {g cap q : Nat} {z : Int} (h : R3 B w0 (.slice (some ⟨g, 0, none⟩) (q + 1) cap) v2 v3 (l1 ++ [z]) l2 l3 W) (hq : q = l1.length) : R3 B w0 (.slice (some ⟨g, 0, none⟩) q cap) v2 v3 l1 l2 l3 W := by
  subst hq
  have ho := h.o1
  simp only [List.length_append, List.length_cons, List.length_nil, Nat.zero_add] at ho
  have hc := own_cut ho (Nat.le_succ l1.length)
  exact ⟨by simpa [List.take_append] using hc, h.o2, h.o3, h.d12, h.d13, h.d23, h.b, h.s⟩
end

end Go.Proofs.Ytephmkekgmpnpaa
