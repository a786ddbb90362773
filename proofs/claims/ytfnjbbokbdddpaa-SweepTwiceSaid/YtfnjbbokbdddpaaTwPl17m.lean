/-
  Swept again nothing more goes; with a greater age no more go; two memories and blocks apart of them. Conditions: none.
-/
import Derived.Test.YtfnjbbokbdddpaaTwo17m
namespace Go.Proofs.Ytfnjbbokbdddpaa.M2
open Go.RowKit

section
variable {ag ag2 P : Int} {n : Nat} {ps : List Nat} {zs zs' : List Int}

theorem swP_drop {a : Nat} (h : a ∈ (swP ag P zs ps 0).drop 1) : a ∈ ps.drop 1 ∧ swO ag P zs a = false := by
  unfold swP at h
  cases ps with
  | nil => simp at h
  | cons b r => simpa using h

theorem swO_left (hos : Os n ps) (s : Swp n 0 ag P ps zs zs') {a : Nat} (h : a ∈ (swP ag P zs ps 0).drop 1) (x : Int) : swO ag P (zs'.set 0 x) a = false := by
  obtain ⟨h1, h2⟩ := swP_drop h
  obtain ⟨j, hj, rfl⟩ := hos.isr a (List.mem_of_mem_drop h1)
  obtain ⟨e0, e1⟩ := s.st j hj (fun hh => by rw [h2] at hh; cases hh.2)
  have e2 := s.ags j hj
  unfold swO at h2 ⊢
  rw [getD_set, getD_set, getD_set, if_neg (by omega), if_neg (by omega), if_neg (by omega), e0, e1, e2]
  exact h2

theorem twice_same (hos : Os n ps) (s : Swp n 0 ag P ps zs zs') {z2 : List Int} (s2 : Swp n 0 ag P (swP ag P zs ps 0) (zs'.set 0 0) z2) : z2.set 0 0 = zs'.set 0 0 := by
  rw [s2.sm (fun a ha => swO_left hos s ha 0)]
  rw [List.set_set]

theorem swO_more (h : ag ≤ ag2) {a : Nat} (ho : swO ag P zs a = false) : swO ag2 P zs a = false := by
  cases h2 : swO ag2 P zs a with
  | false => rfl
  | true =>
    unfold swO oldB at ho h2
    simp only [Bool.and_eq_true, decide_eq_true_eq] at h2
    obtain ⟨h1, h3, h4⟩ := h2
    rw [decide_eq_true h1, decide_eq_true h3, decide_eq_true (show ag < _ by omega)] at ho
    cases ho

theorem twice_mem (h : ag ≤ ag2) {a : Nat} (ha : a ∈ swP ag P zs ps 0) : a ∈ swP ag2 P zs ps 0 := by
  unfold swP at ha ⊢
  rw [List.mem_append] at ha ⊢
  refine ha.imp id fun ha => ?_
  rw [List.mem_filter] at ha ⊢
  exact ⟨ha.1, by have := swO_more h (by simpa using ha.2); simp [this]⟩

theorem twice_len (h : ag ≤ ag2) : (swP ag P zs ps 0).length ≤ (swP ag2 P zs ps 0).length := by
  unfold swP
  rw [List.length_append, List.length_append, ← List.countP_eq_length_filter, ← List.countP_eq_length_filter]
  have := List.countP_mono_left (l := ps.drop (0 + 1)) (p := fun a => !swO ag P zs a) (q := fun a => !swO ag2 P zs a) (fun a _ ha => by have := swO_more h (show swO ag P zs a = false by simpa using ha); simp [this])
  omega
end

theorem ints_getD (ps : List Nat) {k : Nat} (h : k < ps.length) : (ints ps).getD k 0 = ((ps.getD k 0 : Nat) : Int) := by simp [ints, List.getD, h]
theorem ints_in {ps : List Nat} {a : Nat} (h : a ∈ ps) : ((a : Nat) : Int) ∈ ints ps := List.mem_map.2 ⟨a, h, rfl⟩

section
variable {w w' : World} {N N2 q p : Nat} {v v2 : Value} {size size2 : Int} {zs zs' ys ys' : List Int} {st st' st2 : Int} {c : Nat}
structure MP (w : World) (N p : Nat) (v : Value) (size : Int) (zs : List Int) (st : Int) (N2 q : Nat) (v2 : Value) (size2 : Int) (ys : List Int) (st2 : Int) (c : Nat) : Prop where
  m : M2s w N p v size zs st N2 q v2 size2 ys st2
  lt : c < w.heap.size
  cp : c ≠ p
  cq : c ≠ q
  cv : v.ownBlock ≠ some c
  cw : v2.ownBlock ≠ some c
theorem MP.new (h : M2s w N p v size zs st N2 q v2 size2 ys st2) (hb : Below w.heap.size w w') (h1 : w.heap.size ≤ c) (h2 : c < w'.heap.size) : MP w' N p v size zs st N2 q v2 size2 ys st2 c :=
  ⟨h.fresh hb, h2, by have := h.a.lt; omega, by have := h.b.lt; omega, fun e => by have := (h.a.rowLt e).2; omega, fun e => by have := (h.b.rowLt e).2; omega⟩
theorem MP.fresh (h : MP w N p v size zs st N2 q v2 size2 ys st2 c) (hb : Below w.heap.size w w') : MP w' N p v size zs st N2 q v2 size2 ys st2 c :=
  ⟨h.m.fresh hb, Nat.lt_of_lt_of_le h.lt hb.size, h.cp, h.cq, h.cv, h.cw⟩
theorem MP.didA (h : MP w N p v size zs st N2 q v2 size2 ys st2 c) (d : Did N p v size zs' st' w w') : (∃ v', MP w' N p v' size zs' st' N2 q v2 size2 ys st2 c) ∧ w'.heap[c]? = w.heap[c]? := by
  obtain ⟨v', m, wr, lt⟩ := d
  have hb := h.m.b.off wr h.m.h0.symm h.m.h1 (fun g e => ⟨fun e2 => h.m.h2 (e2 ▸ e), fun e2 => h.m.h3 g e2 e⟩)
  have lq := h.m.b.lt
  have lc := h.lt
  refine ⟨⟨v', ⟨m, hb, h.m.h0, fun e => ?_, h.m.h2, fun g e e2 => ?_, h.m.le⟩, Nat.lt_of_lt_of_le h.lt wr.size, h.cp, h.cq, fun e => ?_, h.cw⟩, wr.block c h.lt h.cp h.cv⟩
  · rcases lt _ e with e | e
    · exact h.m.h1 e
    · omega
  · rcases lt _ e with e | e
    · exact h.m.h3 g e e2
    · have := (h.m.b.rowLt e2).2; omega
  · rcases lt _ e with e | e
    · exact h.cv e
    · omega
theorem MP.didB (h : MP w N p v size zs st N2 q v2 size2 ys st2 c) (d : Did N2 q v2 size2 ys' st' w w') : (∃ v', MP w' N p v size zs st N2 q v' size2 ys' st' c) ∧ w'.heap[c]? = w.heap[c]? := by
  obtain ⟨v', m, wr, lt⟩ := d
  have ha := h.m.a.off wr h.m.h0 h.m.h2 (fun g e => ⟨fun e2 => h.m.h1 (e2 ▸ e), h.m.h3 g e⟩)
  have lp := h.m.a.lt
  have lc := h.lt
  refine ⟨⟨v', ⟨ha, m, h.m.h0, h.m.h1, fun e => ?_, fun g e e2 => ?_, h.m.le⟩, Nat.lt_of_lt_of_le h.lt wr.size, h.cp, h.cq, h.cv, fun e => ?_⟩, wr.block c h.lt h.cq h.cw⟩
  · rcases lt _ e with e | e
    · exact h.m.h2 e
    · omega
  · rcases lt _ e2 with e2 | e2
    · exact h.m.h3 g e e2
    · have := (h.m.a.rowLt e).2; omega
  · rcases lt _ e with e | e
    · exact h.cw e
    · omega
theorem Reads.blk {k : IntKind} {g o n : Nat} {xs : List Int} (h : Reads k w (some ⟨g, o, none⟩) n xs) (lt : g < w'.heap.size) (e : w'.heap[g]? = w.heap[g]?) : Reads k w' (some ⟨g, o, none⟩) n xs := by
  refine ⟨h.1, fun h0 => ?_⟩
  obtain ⟨b, off, e2, hl, hc⟩ := h.2 h0
  simp only [Option.some.injEq, Addr.mk.injEq] at e2
  obtain ⟨rfl, rfl, _⟩ := e2
  exact ⟨g, o, rfl, lt, fun j hj => (World.cell?_of_block e).trans (hc j hj)⟩
end

end Go.Proofs.Ytfnjbbokbdddpaa.M2
