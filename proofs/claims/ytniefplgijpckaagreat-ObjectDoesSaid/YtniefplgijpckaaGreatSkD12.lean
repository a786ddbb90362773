/-
  What Batch of package skip does: of values that rise as many as find room are put, each from where the one ahead of it stands. Conditions: a list as Skip says; numbers that lie in memory, in none of the list's blocks, a million at most. Lists in a walk: what is known of one, or of two that know nothing of one another, between the calls; the example that every statement asks ('known'); what reaperref04.Same tells of equal lists. Conditions: lists as At says.
-/
import Derived.Test.YtniefplgijpckaaGreatSkC12
namespace Go.Proofs.YtniefplgijpckaaGreat
open Go.RowKit

/-- The first k of a batch are put, one by one. -/
def insMany (l : List It) (vs hs : List Int) : Nat → List It
  | 0 => l
  | k + 1 => insIt ⟨vs.getD k 0, hOf (hs.getD k 1)⟩ (insMany l vs hs k)

theorem insMany_length (l : List It) (vs hs : List Int) : ∀ k, (insMany l vs hs k).length = l.length + k
  | 0 => rfl
  | k + 1 => by rw [insMany, insIt_length, insMany_length l vs hs k]; omega

/-- For how many there is room. -/
def roomOf (most : Int) (l : List It) (vs : List Int) : Nat := if adjB vs then min (most - l.length).toNat vs.length else 0

def toldB (r n : Nat) : List Bool := List.replicate r true ++ List.replicate (n - r) false
theorem toldB_length {r n : Nat} (h : r ≤ n) : (toldB r n).length = n := by simp [toldB]; omega
theorem toldB_set {r n : Nat} (h : r < n) : (toldB r n).set r true = toldB (r + 1) n := by
  unfold toldB
  rw [List.set_append_right _ _ (by simp), show n - r = (n - (r + 1)) + 1 by omega, List.replicate_succ, List.replicate_succ']
  simp

/-- What Batch leaves. -/
def BatchPostS (w : World) (F : Nat → Prop) (p : Nat) (most : Int) (l : List It) (vs hs : List Int) (e : Ending) (w' : World) : Prop :=
  ∃ g, w.heap.size ≤ g ∧ e = .returned (.slice (some ⟨g, 0, none⟩) vs.length vs.length) ∧ w'.heap[g]? = some (.cells ((toldB (roomOf most l vs) vs.length).map Value.bool).toArray 4 (0, 0)) ∧ DidS F p most (insMany l vs hs (roomOf most l vs)) w w'

theorem madeBools {w w1 : World} {n : Nat} (ho : w1.ownsRow w.heap.size 4 1 (.slice (some ⟨w.heap.size, 0, none⟩) n n) n (madeCells (Value.bool false).cells (n * 1)).toList) (hg : w.grownBy w1 none) :
    w1.heap[w.heap.size]? = some (.cells ((toldB 0 n).map Value.bool).toArray 4 (0, 0)) ∧ Below w.heap.size w w1 := by
  rw [show (Value.bool false).cells = #[Value.bool false] from rfl, Nat.mul_one, toList_madeCells_one] at ho
  have := rowWhole ho
  refine ⟨by simpa [toldB] using this, (Below.refl _ w).grown hg (Nat.le_refl _) (fun k e => by cases e)⟩

/-- Nothing is put. -/
theorem batchNone {w w1 : World} {F : Nat → Prop} {p : Nat} {most : Int} {l : List It} {n : Nat} {vs hs : List Int} (h : Skip w F p most l) (hm : w1.heap[w.heap.size]? = some (.cells ((toldB 0 n).map Value.bool).toArray 4 (0, 0)) ∧ Below w.heap.size w w1) (hl : vs.length = n) (hr : roomOf most l vs = 0) (q : Nat) :
    BatchPostS w F p most l vs hs (.returned (.slice (some ⟨w.heap.size, 0, none⟩) n n)) (w1.drewN q) := by
  refine ⟨w.heap.size, Nat.le_refl _, by rw [hl], by rw [hr, hl]; exact hm.1, ?_⟩
  rw [hr]
  exact h.did ⟨hm.2.os, hm.2.tape, hm.2.output, hm.2.size, hm.2.block⟩

/-- What holds between two rounds of Batch: the first k are put; where the last one stands. -/
structure BRel (w : World) (F : Nat → Prop) (p : Nat) (most : Int) (l : List It) (vs hs : List Int) (g B n k : Nat) (W : World) : Prop where
  core : ∃ A0 B0 : List Nd, Skp W p most (A0 ++ B0) ∧ itsOf (A0 ++ B0) = insMany l vs hs k ∧ PBox W B (pos p A0) ∧ (k = 0 → A0 = []) ∧ (∀ a ∈ A0, a.v ≤ vs.getD (k - 1) 0) ∧ ∀ x, InF p (A0 ++ B0) x → F x ∨ w.heap.size ≤ x
  told : W.heap[g]? = some (.cells ((toldB k n).map Value.bool).toArray 4 (0, 0))
  wr : Wrote F w W
  new : w.heap.size ≤ g ∧ w.heap.size ≤ B

theorem batchStart {w w1 w2 w3 : World} {F : Nat → Prop} {p : Nat} {most : Int} {l : List It} {n : Nat} {vs hs : List Int} (h : Skip w F p most l) (hm : w1.heap[w.heap.size]? = some (.cells ((toldB 0 n).map Value.bool).toArray 4 (0, 0)) ∧ Below w.heap.size w w1)
    (hq : Below w1.heap.size w1 w2) (hb3 : Below w2.heap.size w2 w3) : BRel w F p most l vs hs w.heap.size w3.heap.size n 0 (w3.alloc (.cells #[.pointer (some ⟨(pos p []) 0, 0, none⟩), .pointer (some ⟨(pos p []) 1, 0, none⟩), .pointer (some ⟨(pos p []) 2, 0, none⟩), .pointer (some ⟨(pos p []) 3, 0, none⟩), .pointer (some ⟨(pos p []) 4, 0, none⟩), .pointer (some ⟨(pos p []) 5, 0, none⟩), .pointer (some ⟨(pos p []) 6, 0, none⟩), .pointer (some ⟨(pos p []) 7, 0, none⟩)] 199)) := by
  have h1 := hm.2.size
  have h2 := hq.size
  have h3 := hb3.size
  have p0 := PBox.new w3 (pos p [])
  have e1 : Below w1.heap.size w1 (w3.alloc (.cells #[.pointer (some ⟨(pos p []) 0, 0, none⟩), .pointer (some ⟨(pos p []) 1, 0, none⟩), .pointer (some ⟨(pos p []) 2, 0, none⟩), .pointer (some ⟨(pos p []) 3, 0, none⟩), .pointer (some ⟨(pos p []) 4, 0, none⟩), .pointer (some ⟨(pos p []) 5, 0, none⟩), .pointer (some ⟨(pos p []) 6, 0, none⟩), .pointer (some ⟨(pos p []) 7, 0, none⟩)] 199)) := (hq.trans (hb3.mono h2)).trans ((Below.refl _ w3).alloc (by omega) _)
  generalize w3.alloc (.cells #[.pointer (some ⟨(pos p []) 0, 0, none⟩), .pointer (some ⟨(pos p []) 1, 0, none⟩), .pointer (some ⟨(pos p []) 2, 0, none⟩), .pointer (some ⟨(pos p []) 3, 0, none⟩), .pointer (some ⟨(pos p []) 4, 0, none⟩), .pointer (some ⟨(pos p []) 5, 0, none⟩), .pointer (some ⟨(pos p []) 6, 0, none⟩), .pointer (some ⟨(pos p []) 7, 0, none⟩)] 199) = W at *
  have e0 := hm.2.trans (e1.mono h1)
  obtain ⟨ns, m, hi, hF, _⟩ := h
  exact ⟨⟨[], ns, m.keep fun g hg => e0.block g (m.bod.lt g hg), hi, p0, fun _ => rfl, by simp, fun x hx => .inl (hF x hx)⟩, (e1.block _ (lt_of_block hm.1)).trans hm.1, Wrote.of e0 F, Nat.le_refl _, by omega⟩

theorem batchDrew (w1 : World) (q : Nat) : Below w1.heap.size w1 (w1.drewN q) := ⟨rfl, rfl, rfl, Nat.le_refl _, fun _ _ => rfl⟩

theorem batchPart {W : World} {p : Nat} {most : Int} {A0 B0 : List Nd} {k n : Nat} {vs : List Int} (h : Skp W p most (A0 ++ B0)) (hAv : ∀ a ∈ A0, a.v ≤ vs.getD (k - 1) 0) (hA0 : k = 0 → A0 = []) (hadj : adjB vs = true) (hk : k < n) (hl : vs.length = n) :
    (∀ a ∈ A0 ++ B0.takeWhile (fun a => decide (a.v ≤ vs.getD k 0)), a.v ≤ vs.getD k 0) ∧ (∀ a ∈ B0.dropWhile (fun a => decide (a.v ≤ vs.getD k 0)), vs.getD k 0 < a.v) ∧ PG p (A0 ++ B0.takeWhile (fun a => decide (a.v ≤ vs.getD k 0))) 8 (pos p A0) := by
  have hAk : ∀ a ∈ A0, a.v ≤ vs.getD k 0 := fun a ha => by
    by_cases e : k = 0
    · rw [hA0 e] at ha; simp at ha
    · have h1 := hAv a ha
      have h2 := (adjB_iff vs).1 hadj k (by omega) (by omega)
      omega
  refine ⟨fun a ha => ?_, ?_, fun j _ => ?_, fun j h1 h2 => by omega⟩
  · rcases List.mem_append.1 ha with ha | ha
    · exact hAk a ha
    · exact take_le a ha
  · have hso := h.so
    unfold Rise at hso
    rw [List.map_append, List.pairwise_append] at hso
    exact drop_gt hso.2.1
  · rcases List.mem_cons.1 (pos_mem p A0 j) with e | e
    · rw [e]; simp
    · exact List.mem_cons_of_mem _ (by rw [lv_append]; exact List.mem_append_left _ e)

/-- What a put of Batch leaves, ahead of the two stores behind it. -/
def BatchPut (w : World) (F : Nat → Prop) (p : Nat) (most : Int) (l : List It) (vs hs : List Int) (g B n k : Nat) (A0 : List Nd) (e : Ending) (w4 : World) : Prop :=
  ∃ G : Nat → Nat, e = .returned (.agg #[.pointer (some ⟨G 0, 0, none⟩), .pointer (some ⟨G 1, 0, none⟩), .pointer (some ⟨G 2, 0, none⟩), .pointer (some ⟨G 3, 0, none⟩), .pointer (some ⟨G 4, 0, none⟩), .pointer (some ⟨G 5, 0, none⟩), .pointer (some ⟨G 6, 0, none⟩), .pointer (some ⟨G 7, 0, none⟩)]) ∧ PBox w4 B (pos p A0) ∧ ∀ w5, w5 = ((((((((w4.setCell ⟨B, 0, none⟩ (.pointer (some ⟨G 0, 0, none⟩))).setCell ⟨B, 1, none⟩ (.pointer (some ⟨G 1, 0, none⟩))).setCell ⟨B, 2, none⟩ (.pointer (some ⟨G 2, 0, none⟩))).setCell ⟨B, 3, none⟩ (.pointer (some ⟨G 3, 0, none⟩))).setCell ⟨B, 4, none⟩ (.pointer (some ⟨G 4, 0, none⟩))).setCell ⟨B, 5, none⟩ (.pointer (some ⟨G 5, 0, none⟩))).setCell ⟨B, 6, none⟩ (.pointer (some ⟨G 6, 0, none⟩))).setCell ⟨B, 7, none⟩ (.pointer (some ⟨G 7, 0, none⟩))) → w5.cell? ⟨g, k, none⟩ = some (.bool false) ∧ w5.frozen? ⟨g, k, none⟩ = false ∧ BRel w F p most l vs hs g B n (k + 1) (w5.setCell ⟨g, k, none⟩ (.bool true))

theorem batchPut {w wr W2 w4 : World} {F : Nat → Prop} {p : Nat} {most : Int} {l : List It} {vs hs : List Int} {g B n k : Nat} {A0 B0 : List Nd} {e : Ending}
    (hc : Skp wr p most (A0 ++ B0) ∧ itsOf (A0 ++ B0) = insMany l vs hs k ∧ PBox wr B (pos p A0) ∧ (k = 0 → A0 = []) ∧ (∀ a ∈ A0, a.v ≤ vs.getD (k - 1) 0) ∧ ∀ x, InF p (A0 ++ B0) x → F x ∨ w.heap.size ≤ x)
    (hr : BRel w F p most l vs hs g B n k wr)
    (hs3 : (∀ a ∈ A0 ++ B0.takeWhile (fun a => decide (a.v ≤ vs.getD k 0)), a.v ≤ vs.getD k 0) ∧ (∀ a ∈ B0.dropWhile (fun a => decide (a.v ≤ vs.getD k 0)), vs.getD k 0 < a.v) ∧ PG p (A0 ++ B0.takeWhile (fun a => decide (a.v ≤ vs.getD k 0))) 8 (pos p A0))
    (hl : ((A0 ++ B0).length : Int) < most) (hkn : k < n) (hb : Below wr.heap.size wr W2)
    (hp : PutPost W2 p (A0 ++ B0).length most (A0 ++ B0.takeWhile (fun a => decide (a.v ≤ vs.getD k 0))) (B0.dropWhile (fun a => decide (a.v ≤ vs.getD k 0))) (vs.getD k 0) (hOf (hs.getD k 1)) e w4) :
    BatchPut w F p most l vs hs g B n k A0 e w4 := by
  obtain ⟨hsk, hits, hpb, hA0, hAv, hin⟩ := hc
  obtain ⟨h1, h2, h3⟩ := hs3
  obtain ⟨tb, ht, he, hbod, hw⟩ := hp
  have hcat : (A0 ++ B0.takeWhile (fun a => decide (a.v ≤ vs.getD k 0))) ++ B0.dropWhile (fun a => decide (a.v ≤ vs.getD k 0)) = A0 ++ B0 := by rw [List.append_assoc, List.takeWhile_append_dropWhile]
  have hT : itsOf (A0 ++ B0.takeWhile (fun a => decide (a.v ≤ vs.getD k 0))) = (itsOf (A0 ++ B0)).takeWhile (fun i => decide (i.v ≤ vs.getD k 0)) := by
    rw [← its_take, List.takeWhile_append_of_pos]
    intro a ha
    exact decide_eq_true (h1 a (List.mem_append_left _ ha))
  have hD : itsOf (B0.dropWhile (fun a => decide (a.v ≤ vs.getD k 0))) = (itsOf (A0 ++ B0)).dropWhile (fun i => decide (i.v ≤ vs.getD k 0)) := by
    rw [← its_drop, List.dropWhile_append_of_pos]
    intro a ha
    exact decide_eq_true (h1 a (List.mem_append_left _ ha))
  rw [hcat] at hw
  have hso := hsk.so
  have hmo := hsk.mo
  rw [← hcat] at hso
  generalize A0 ++ B0.takeWhile (fun a => decide (a.v ≤ vs.getD k 0)) = A at *
  generalize B0.dropWhile (fun a => decide (a.v ≤ vs.getD k 0)) = Bq at *
  have hbW := hsk.bod.below hb
  have hpb4 : PBox w4 B (pos p A0) := (hw.block B (hpb.below hb).lt (hbW.notIn (hpb.below hb) (by decide) (by decide))).trans (hpb.below hb)
  have ht2 := (hb.block g (lt_of_block hr.told)).trans hr.told
  have ht4 : w4.heap[g]? = some (.cells ((toldB k n).map Value.bool).toArray 4 (0, 0)) := (hw.block g (lt_of_block ht2) (hbW.notIn ht2 (by decide) (by decide))).trans ht2
  have hgB : g ≠ B := fun e => by
    unfold PBox at hpb4
    rw [← e, ht4] at hpb4
    injection hpb4 with hpb4
    injection hpb4 with _ hpb4
    exact absurd hpb4 (by decide)
  refine ⟨pos p (A ++ [⟨tb, vs.getD k 0, hOf (hs.getD k 1)⟩]), he, hpb4, fun w5 h5 => ?_⟩
  have hw8 := wrote8 (F := fun b => b = B) (Wrote.refl _ w4) (B := B) (.inr rfl) (.pointer (some ⟨pos p (A ++ [⟨tb, vs.getD k 0, hOf (hs.getD k 1)⟩]) 0, 0, none⟩)) (.pointer (some ⟨pos p (A ++ [⟨tb, vs.getD k 0, hOf (hs.getD k 1)⟩]) 1, 0, none⟩)) (.pointer (some ⟨pos p (A ++ [⟨tb, vs.getD k 0, hOf (hs.getD k 1)⟩]) 2, 0, none⟩)) (.pointer (some ⟨pos p (A ++ [⟨tb, vs.getD k 0, hOf (hs.getD k 1)⟩]) 3, 0, none⟩)) (.pointer (some ⟨pos p (A ++ [⟨tb, vs.getD k 0, hOf (hs.getD k 1)⟩]) 4, 0, none⟩)) (.pointer (some ⟨pos p (A ++ [⟨tb, vs.getD k 0, hOf (hs.getD k 1)⟩]) 5, 0, none⟩)) (.pointer (some ⟨pos p (A ++ [⟨tb, vs.getD k 0, hOf (hs.getD k 1)⟩]) 6, 0, none⟩)) (.pointer (some ⟨pos p (A ++ [⟨tb, vs.getD k 0, hOf (hs.getD k 1)⟩]) 7, 0, none⟩))
  have hp5 := hpb4.set8 (pos p (A ++ [⟨tb, vs.getD k 0, hOf (hs.getD k 1)⟩]))
  rw [← h5] at hw8 hp5
  have ht5 : w5.heap[g]? = some (.cells ((toldB k n).map Value.bool).toArray 4 (0, 0)) := (hw8.block g (lt_of_block ht4) hgB).trans ht4
  have hb5 : Bod w5 p (((A0 ++ B0).length : Nat) + 1 : Int) most (A ++ ⟨tb, vs.getD k 0, hOf (hs.getD k 1)⟩ :: Bq) := hbod.keep fun x hx => hw8.block x (hbod.lt x hx) fun e => hbod.notIn hpb4 (by decide) (by decide) (e ▸ hx)
  have hlen : (toldB k n).length = n := toldB_length (by omega)
  have hgn : ¬ InF p (A ++ ⟨tb, vs.getD k 0, hOf (hs.getD k 1)⟩ :: Bq) g := hb5.notIn ht5 (by decide) (by decide)
  have hnl : (A ++ ⟨tb, vs.getD k 0, hOf (hs.getD k 1)⟩ :: Bq).length = (A0 ++ B0).length + 1 := by
    have := congrArg List.length hcat
    simp only [List.length_append, List.length_cons] at this ⊢
    omega
  refine ⟨?_, by simp [World.frozen?, ht5], ⟨A ++ [⟨tb, vs.getD k 0, hOf (hs.getD k 1)⟩], Bq, ?_, ?_, ?_, fun h => by omega, fun a ha => ?_, fun x hx => ?_⟩, ?_, ?_, hr.new⟩
  · simp only [World.cell?, ht5]
    have : (toldB k n)[k]? = some false := by
      unfold toldB
      rw [List.getElem?_append_right (by simp), List.length_replicate, Nat.sub_self, show n - k = (n - k - 1) + 1 by omega, List.replicate_succ]
      rfl
    simp [this]
  · rw [List.append_assoc]
    refine ⟨?_, rise_ins hso h1 h2, by simp only [List.singleton_append, hnl]; omega, hmo⟩
    simp only [List.singleton_append, hnl]
    exact hb5.keep fun x hx => Below.heap_setCell _ _ _ _ (fun e => hgn ((show x = g from e) ▸ hx))
  · rw [List.append_assoc, insMany, ← hits]
    unfold insIt
    rw [← hT, ← hD]
    simp [itsOf]
  · exact (Below.heap_setCell _ _ _ _ (Ne.symm hgB)).trans hp5
  · rw [Nat.add_sub_cancel]
    rcases List.mem_append.1 ha with ha | ha
    · exact h1 a ha
    · simp at ha; rw [ha]; exact Int.le_refl _
  · have hx2 : InF p (A0 ++ B0) x ∨ x = tb := by
      rw [← hcat]
      simp only [InF, blks, List.map_append, List.map_cons, List.map_nil, List.mem_append, List.mem_cons, List.not_mem_nil, or_false] at hx ⊢
      rcases hx with hx | (hx | hx) | hx
      · exact .inl (.inl hx)
      · exact .inl (.inr (.inl hx))
      · exact .inr hx
      · exact .inl (.inr (.inr hx))
    rcases hx2 with hx2 | hx2
    · exact hin x hx2
    · have q1 := hb.size
      have q2 := hr.wr.size
      exact .inr (by omega)
  · have := set_block ht5 k (.bool true)
    rw [this]
    congr 2
    rw [← toldB_set hkn]
    simp
  · have q1 : Wrote F w w4 := by
      have q0 : Wrote F w W2 := hr.wr.trans (Wrote.of hb F)
      refine ⟨hw.os.trans q0.os, hw.tape.trans q0.tape, hw.output.trans q0.output, Nat.le_trans q0.size hw.size, fun x hx hF => ?_⟩
      refine (hw.block x (Nat.lt_of_lt_of_le hx q0.size) fun e => ?_).trans (q0.block x hx hF)
      rcases hin x e with e | e
      · exact hF e
      · omega
    have q5 : Wrote F w w5 := by rw [h5]; exact wrote8 q1 (.inl hr.new.2) _ _ _ _ _ _ _ _
    exact q5.setCell (.inl hr.new.1) _

theorem batchEnd {w W : World} {F : Nat → Prop} {p : Nat} {most : Int} {l : List It} {n r B : Nat} {vs hs : List Int} (h : Skip w F p most l) (hr : roomOf most l vs = r) (hl : vs.length = n) (hb : BRel w F p most l vs hs w.heap.size B n r W) :
    BatchPostS w F p most l vs hs (.returned (.slice (some ⟨w.heap.size, 0, none⟩) n n)) W := by
  obtain ⟨A0, B0, hsk, hits, _, _, _, hin⟩ := hb.core
  refine ⟨w.heap.size, Nat.le_refl _, by rw [hl], by rw [hr, hl]; exact hb.told, ?_⟩
  rw [hr]
  refine ⟨fun g => F g ∨ New w W g, ⟨A0 ++ B0, hsk, hits, fun g hg => ?_, fun g hg => ?_⟩, hb.wr, fun g hg => ?_⟩
  · rcases hin g hg with e | e
    · exact .inl e
    · exact .inr ⟨e, hsk.bod.lt g hg⟩
  · rcases hg with e | e
    · exact Nat.lt_of_lt_of_le (h.foot g e) hb.wr.size
    · exact e.2
  · rcases hg with e | e
    · exact .inl e
    · exact .inr e.1

theorem Reads.offIf {k : IntKind} {F : Nat → Prop} {w w' : World} {ao : Option Addr} {len : Nat} {zs : List Int} (h : Reads k w ao len zs) (hF : 0 < len → Off F ao) (hb : Wrote F w w') : Reads k w' ao len zs := by
  by_cases h0 : 0 < len
  · exact h.off (hF h0) hb
  · exact ⟨h.1, fun h => absurd h h0⟩

section
variable {w : World} {F : Nat → Prop} {p : Nat} {most : Int} {l : List It}

set_option maxRecDepth 100000 in
set_option maxHeartbeats 4000000 in
theorem batchAnyIf (h : Skip w F p most l) (ao bo : Option Addr) (n cap m capb : Nat) (vs hs : List Int) (hv : Reads .i32 w ao n vs) (hh : Reads .i64 w bo m hs) (hF : 0 < n → Off F ao) (hG : 0 < m → Off F bo) (hn : n ≤ 1000000) (hcap : n ≤ cap) :
    Calls Tryz.prog 139 #[.pointer (some ⟨p, 0, none⟩), .slice ao n cap, .slice bo m capb] w (BatchPostS w F p most l vs hs) := by
  obtain ⟨i0, hi, hz0, hz1, hz2⟩ := info_parts infoBool
  have H := Lib.hid h
  have HV := Lib.hid hv
  have HH := Lib.hid hh
  have hmo := h.mo
  have hlen := h.len
  clear h hv hh
  go_enter Tryz.func139, Tryz.ntmps139
  go_wp2_with (at_make; refine wpList_make_full _ rfl _ _ 56 rfl w.heap.size 4 i0 _ 1 Tryz.underlying56 hi hz0 hz1 .i64 .i64 _ _ n rfl rfl rfl rfl (by rw [hz2]; omega) (by simp only [maxLen]; omega) (Nat.le_refl _) ?_; intro w1 hown1 hgrow1; have HM := Lib.hid (madeBools hown1 hgrow1); clear hown1 hgrow1)
  have h1 := H.out.fresh HM.out.2
  have M := mostAny h1
  have L := lenAny h1
  have H1 := Lib.hid h1
  clear h1
  generalize hll : l.length = ll at *
  have HLL := Lib.hid hll
  clear hll
  by_cases hmin : most - ll ≤ n
  · obtain ⟨R, hR⟩ : ∃ R : Nat, most = R + ll := ⟨(most - ll).toNat, by omega⟩
    have HRoom := Lib.hid (show roomOf most l vs = if adjB vs then R else 0 by unfold roomOf; rw [HLL.out, HV.out.1]; congr 1; omega)
    rw [hR] at M
    have HMost := Lib.hid hR
    have hlt : (R : Int) ≤ n := by omega
    have hrc : (R : Int) ≤ cap := by omega
    clear hR hmin
    have hs1 := HV.out.keep HM.out.2
    have S := sortedAny w1 ao n cap vs hs1 hn
    clear hs1
    by_cases hz : R = 0
    · have HQ := Lib.hid (batchNone (p := p) (hs := hs) H.out HM.out HV.out.1 (show roomOf most l vs = 0 by rw [HRoom.out, hz]; simp) 0)
      go_wp2_with (first | (go_at_call 125; refine L.mono ?_; rintro e w' ⟨rfl, rfl⟩) | (go_at_call 135; refine M.mono ?_; rintro e w' ⟨rfl, rfl⟩))
      go_ret
      exact HQ.out
    · have hzp : 0 < R := by omega
      cases hadj : adjB vs with
      | false =>
        rw [hadj] at S
        have HQ := Lib.hid (batchNone (p := p) (hs := hs) H.out HM.out HV.out.1 (show roomOf most l vs = 0 by unfold roomOf; rw [hadj]; rfl))
        clear hadj
        go_wp2_with (first | (go_at_call 125; refine L.mono ?_; rintro e w' ⟨rfl, rfl⟩) | (go_at_call 135; refine M.mono ?_; rintro e w' ⟨rfl, rfl⟩) | (go_at_call 152; refine S.mono ?_; rintro e w' ⟨rfl, q, rfl⟩))
        go_ret
        exact HQ.out q
      | true =>
        rw [hadj] at S
        have HAd := Lib.hid hadj
        clear hadj
        go_wp2_with (first | (go_at_call 125; refine L.mono ?_; rintro e w' ⟨rfl, rfl⟩) | (go_at_call 135; refine M.mono ?_; rintro e w' ⟨rfl, rfl⟩))
        refine S.mono ?_
        clear S L M
        rintro e w' ⟨rfl, q, rfl⟩
        have HWq := Lib.hid (batchDrew w1 q)
        generalize w1.drewN q = w2 at *
        go_wp2_with fail
        refine (startAny _ _).mono ?_
        rintro e w3 ⟨rfl, hb3⟩
        go_wp2
        have HI0 := Lib.hid (batchStart (vs := vs) (hs := hs) H.out HM.out HWq.out hb3)
        clear hb3
        generalize w3.alloc (.cells #[.pointer (some ⟨(pos p []) 0, 0, none⟩), .pointer (some ⟨(pos p []) 1, 0, none⟩), .pointer (some ⟨(pos p []) 2, 0, none⟩), .pointer (some ⟨(pos p []) 3, 0, none⟩), .pointer (some ⟨(pos p []) 4, 0, none⟩), .pointer (some ⟨(pos p []) 5, 0, none⟩), .pointer (some ⟨(pos p []) 6, 0, none⟩), .pointer (some ⟨(pos p []) 7, 0, none⟩)] 199) = W0 at *
        have HR := Lib.hid (show R ≤ n ∧ (l.length : Int) + R ≤ most by have := HLL.out; have := HMost.out; omega)
        have HRm := Lib.hid (show roomOf most l vs = R by rw [HRoom.out, HAd.out]; rfl)
        clear hrc hlt HWq
        obtain ⟨b, off, rfl, hbl, hcs⟩ := HV.out.2 (by have := HR.out; omega)
        have HCS := Lib.hid (And.intro hbl (And.intro hcs (hF (by have := HR.out; omega) _ rfl)))
        clear hbl hcs
        go_loopw [37] (fun i wr => ∃ k : Nat, k ≤ R ∧ i = .int .i64 k ∧ BRel w F p most l vs hs w.heap.size w3.heap.size n k wr) (fun i _ => R - (intOf i).toNat)
        case atStart => exact ⟨0, Nat.zero_le _, rfl, HI0.out⟩
        case round =>
          obtain ⟨k, hk, rfl, hr⟩ := hrel
          clear HI0
          by_cases hkR : k < R
          · obtain ⟨A0, B0, hsk, hits, hpb, hA0, hAv, hin⟩ := hr.core
            have hkn : k < n := by have := HR.out; omega
            have cv : wr.cell? ⟨b, off + k, none⟩ = some (.int .i32 (vs.getD k 0)) := (hr.wr.cell (p := ⟨b, off + k, none⟩) HCS.out.1 HCS.out.2.2).trans (HCS.out.2.1 k hkn)
            have hne : ∀ x, InF p (A0 ++ B0) x → x < wr.heap.size := hsk.bod.lt
            have p0 := hpb.cell 0 (by omega)
            have p1 := hpb.cell 1 (by omega)
            have p2 := hpb.cell 2 (by omega)
            have p3 := hpb.cell 3 (by omega)
            have p4 := hpb.cell 4 (by omega)
            have p5 := hpb.cell 5 (by omega)
            have p6 := hpb.cell 6 (by omega)
            have p7 := hpb.cell 7 (by omega)
            have HST := Lib.hid (batchPart hsk hAv hA0 HAd.out hkn HV.out.1)
            have C : Hid (∀ W, Below wr.heap.size wr W → Calls Tryz.prog 137 #[.pointer (some ⟨p, 0, none⟩), (.agg #[.pointer (some ⟨(pos p A0) 0, 0, none⟩), .pointer (some ⟨(pos p A0) 1, 0, none⟩), .pointer (some ⟨(pos p A0) 2, 0, none⟩), .pointer (some ⟨(pos p A0) 3, 0, none⟩), .pointer (some ⟨(pos p A0) 4, 0, none⟩), .pointer (some ⟨(pos p A0) 5, 0, none⟩), .pointer (some ⟨(pos p A0) 6, 0, none⟩), .pointer (some ⟨(pos p A0) 7, 0, none⟩)]), .int .i32 (vs.getD k 0), .int .i64 (hs.getD k 1)] W (PutPost W p (A0 ++ B0).length most (A0 ++ B0.takeWhile (fun a => decide (a.v ≤ vs.getD k 0))) (B0.dropWhile (fun a => decide (a.v ≤ vs.getD k 0))) (vs.getD k 0) (hOf (hs.getD k 1)))) := Lib.hid fun W hW =>
              putAny (by rw [List.append_assoc, List.takeWhile_append_dropWhile]; exact hsk.bod.below hW) _ _ HST.out.1 HST.out.2.1 _ HST.out.2.2 (by omega) (by have := hsk.len; omega)
            have HHt : Hid (∀ W, Wrote F w W → Calls Tryz.prog 153 #[.slice bo m capb, .int .i64 k] W fun e w' => e = .returned (.int .i64 (hs.getD k 1)) ∧ w' = W) := Lib.hid fun W hW => heightIn W bo m capb k hs (HH.out.offIf hG hW)
            have HR0 := Lib.hid hr
            have HC0 := Lib.hid (And.intro hsk (And.intro hits (And.intro hpb (And.intro hA0 (And.intro hAv hin)))))
            have k0 : (0 : Int) ≤ (k : Int) := by omega
            have kR : (k : Int) < R := by omega
            clear hsk hits hpb hA0 hAv hin hr hne
            have HBP : Hid (∀ W2 e w4, Below wr.heap.size wr W2 → PutPost W2 p (A0 ++ B0).length most (A0 ++ B0.takeWhile (fun a => decide (a.v ≤ vs.getD k 0))) (B0.dropWhile (fun a => decide (a.v ≤ vs.getD k 0))) (vs.getD k 0) (hOf (hs.getD k 1)) e w4 → BatchPut w F p most l vs hs w.heap.size w3.heap.size n k A0 e w4) := Lib.hid fun W2 e w4 hb hp =>
              batchPut HC0.out HR0.out HST.out (by have := HR.out; have := insMany_length l vs hs k; have h2 := congrArg List.length HC0.out.2.1; simp only [itsOf, List.length_map] at h2; omega) hkn hb hp
            clear HST
            generalize vs.getD k 0 = y at *
            generalize hs.getD k 1 = hy at *
            go_wp2
            refine wp_region_still_tail 6 (by kernel_rfl) (by kernel_rfl) ?_
            simp only [List.take_succ_cons, List.take_zero, List.drop_succ_cons, List.drop_zero]
            repeat still_step
            still_call (HHt.out wr.drew HR0.out.wr.drew)
            refine wpStill_nil ?_
            change wpList _ _ _ _ _ wr.drew
            have HB1 := Lib.hid (show Below wr.heap.size wr wr.drew from (Below.refl _ _).drew)
            clear p0 p1 p2 p3 p4 p5 p6 p7 cv
            generalize wr.drew = W2 at *
            go_wp2_with fail
            refine (C.out W2 HB1.out).mono ?_
            intro e w4 hp
            obtain ⟨G, he, hp4, h5⟩ := HBP.out W2 e w4 HB1.out hp
            subst he
            have H5 := Lib.hid h5
            clear hp h5
            have r0 := hp4.cell 0 (by omega)
            have f0 := hp4.f 0
            have r1 := hp4.cell 1 (by omega)
            have f1 := hp4.f 1
            have r2 := hp4.cell 2 (by omega)
            have f2 := hp4.f 2
            have r3 := hp4.cell 3 (by omega)
            have f3 := hp4.f 3
            have r4 := hp4.cell 4 (by omega)
            have f4 := hp4.f 4
            have r5 := hp4.cell 5 (by omega)
            have f5 := hp4.f 5
            have r6 := hp4.cell 6 (by omega)
            have f6 := hp4.f 6
            have r7 := hp4.cell 7 (by omega)
            have f7 := hp4.f 7
            clear hp4
            go_upto_region 10 with (fail)
            obtain ⟨cg, fg, hb5⟩ := H5.out _ rfl
            have HB5 := Lib.hid hb5
            clear hb5
            generalize ((((((((w4.setCell ⟨w3.heap.size, 0, none⟩ (.pointer (some ⟨G 0, 0, none⟩))).setCell ⟨w3.heap.size, 1, none⟩ (.pointer (some ⟨G 1, 0, none⟩))).setCell ⟨w3.heap.size, 2, none⟩ (.pointer (some ⟨G 2, 0, none⟩))).setCell ⟨w3.heap.size, 3, none⟩ (.pointer (some ⟨G 3, 0, none⟩))).setCell ⟨w3.heap.size, 4, none⟩ (.pointer (some ⟨G 4, 0, none⟩))).setCell ⟨w3.heap.size, 5, none⟩ (.pointer (some ⟨G 5, 0, none⟩))).setCell ⟨w3.heap.size, 6, none⟩ (.pointer (some ⟨G 6, 0, none⟩))).setCell ⟨w3.heap.size, 7, none⟩ (.pointer (some ⟨G 7, 0, none⟩))) = w5 at *
            clear H5
            go_wp2
            go_roundw
            case rel => exact ⟨k + 1, by omega, by go_num, HB5.out⟩
            case measure => simp [intOf]; omega
          · obtain rfl : k = R := by omega
            have HQ := Lib.hid (batchEnd H.out HRm.out HV.out.1 hr)
            clear hr
            go_wp2
            go_ret
            exact HQ.out
  · have HMost := Lib.hid hmin
    have hlt : (n : Int) < most - ll := by omega
    have hrc : (n : Int) ≤ cap := by omega
    have HRoom := Lib.hid (show roomOf most l vs = if adjB vs then n else 0 by unfold roomOf; rw [HLL.out, HV.out.1]; congr 1; omega)
    have hs1 := HV.out.keep HM.out.2
    have S := sortedAny w1 ao n cap vs hs1 hn
    clear hs1
    by_cases hz : n = 0
    · subst hz
      have HQ := Lib.hid (batchNone (p := p) (hs := hs) H.out HM.out HV.out.1 (show roomOf most l vs = 0 by rw [HRoom.out]; simp) 0)
      go_wp2_with (first | (go_at_call 125; refine L.mono ?_; rintro e w' ⟨rfl, rfl⟩) | (go_at_call 135; refine M.mono ?_; rintro e w' ⟨rfl, rfl⟩))
      go_ret
      exact HQ.out
    · have hzp : 0 < n := by omega
      cases hadj : adjB vs with
      | false =>
        rw [hadj] at S
        have HQ := Lib.hid (batchNone (p := p) (hs := hs) H.out HM.out HV.out.1 (show roomOf most l vs = 0 by unfold roomOf; rw [hadj]; rfl))
        clear hadj
        go_wp2_with (first | (go_at_call 125; refine L.mono ?_; rintro e w' ⟨rfl, rfl⟩) | (go_at_call 135; refine M.mono ?_; rintro e w' ⟨rfl, rfl⟩) | (go_at_call 152; refine S.mono ?_; rintro e w' ⟨rfl, q, rfl⟩))
        go_ret
        exact HQ.out q
      | true =>
        rw [hadj] at S
        have HAd := Lib.hid hadj
        clear hadj
        go_wp2_with (first | (go_at_call 125; refine L.mono ?_; rintro e w' ⟨rfl, rfl⟩) | (go_at_call 135; refine M.mono ?_; rintro e w' ⟨rfl, rfl⟩))
        refine S.mono ?_
        clear S L M
        rintro e w' ⟨rfl, q, rfl⟩
        have HWq := Lib.hid (batchDrew w1 q)
        generalize w1.drewN q = w2 at *
        go_wp2_with fail
        refine (startAny _ _).mono ?_
        rintro e w3 ⟨rfl, hb3⟩
        go_wp2
        have HI0 := Lib.hid (batchStart (vs := vs) (hs := hs) H.out HM.out HWq.out hb3)
        clear hb3
        generalize w3.alloc (.cells #[.pointer (some ⟨(pos p []) 0, 0, none⟩), .pointer (some ⟨(pos p []) 1, 0, none⟩), .pointer (some ⟨(pos p []) 2, 0, none⟩), .pointer (some ⟨(pos p []) 3, 0, none⟩), .pointer (some ⟨(pos p []) 4, 0, none⟩), .pointer (some ⟨(pos p []) 5, 0, none⟩), .pointer (some ⟨(pos p []) 6, 0, none⟩), .pointer (some ⟨(pos p []) 7, 0, none⟩)] 199) = W0 at *
        have HR := Lib.hid (show n ≤ n ∧ (l.length : Int) + n ≤ most by have := HLL.out; have := HMost.out; omega)
        have HRm := Lib.hid (show roomOf most l vs = n by rw [HRoom.out, HAd.out]; rfl)
        clear hrc hlt HWq
        obtain ⟨b, off, rfl, hbl, hcs⟩ := HV.out.2 (by have := HR.out; omega)
        have HCS := Lib.hid (And.intro hbl (And.intro hcs (hF (by have := HR.out; omega) _ rfl)))
        clear hbl hcs
        go_loopw [37] (fun i wr => ∃ k : Nat, k ≤ n ∧ i = .int .i64 k ∧ BRel w F p most l vs hs w.heap.size w3.heap.size n k wr) (fun i _ => n - (intOf i).toNat)
        case atStart => exact ⟨0, Nat.zero_le _, rfl, HI0.out⟩
        case round =>
          obtain ⟨k, hk, rfl, hr⟩ := hrel
          clear HI0
          by_cases hkR : k < n
          · obtain ⟨A0, B0, hsk, hits, hpb, hA0, hAv, hin⟩ := hr.core
            have hkn : k < n := by have := HR.out; omega
            have cv : wr.cell? ⟨b, off + k, none⟩ = some (.int .i32 (vs.getD k 0)) := (hr.wr.cell (p := ⟨b, off + k, none⟩) HCS.out.1 HCS.out.2.2).trans (HCS.out.2.1 k hkn)
            have hne : ∀ x, InF p (A0 ++ B0) x → x < wr.heap.size := hsk.bod.lt
            have p0 := hpb.cell 0 (by omega)
            have p1 := hpb.cell 1 (by omega)
            have p2 := hpb.cell 2 (by omega)
            have p3 := hpb.cell 3 (by omega)
            have p4 := hpb.cell 4 (by omega)
            have p5 := hpb.cell 5 (by omega)
            have p6 := hpb.cell 6 (by omega)
            have p7 := hpb.cell 7 (by omega)
            have HST := Lib.hid (batchPart hsk hAv hA0 HAd.out hkn HV.out.1)
            have C : Hid (∀ W, Below wr.heap.size wr W → Calls Tryz.prog 137 #[.pointer (some ⟨p, 0, none⟩), (.agg #[.pointer (some ⟨(pos p A0) 0, 0, none⟩), .pointer (some ⟨(pos p A0) 1, 0, none⟩), .pointer (some ⟨(pos p A0) 2, 0, none⟩), .pointer (some ⟨(pos p A0) 3, 0, none⟩), .pointer (some ⟨(pos p A0) 4, 0, none⟩), .pointer (some ⟨(pos p A0) 5, 0, none⟩), .pointer (some ⟨(pos p A0) 6, 0, none⟩), .pointer (some ⟨(pos p A0) 7, 0, none⟩)]), .int .i32 (vs.getD k 0), .int .i64 (hs.getD k 1)] W (PutPost W p (A0 ++ B0).length most (A0 ++ B0.takeWhile (fun a => decide (a.v ≤ vs.getD k 0))) (B0.dropWhile (fun a => decide (a.v ≤ vs.getD k 0))) (vs.getD k 0) (hOf (hs.getD k 1)))) := Lib.hid fun W hW =>
              putAny (by rw [List.append_assoc, List.takeWhile_append_dropWhile]; exact hsk.bod.below hW) _ _ HST.out.1 HST.out.2.1 _ HST.out.2.2 (by omega) (by have := hsk.len; omega)
            have HHt : Hid (∀ W, Wrote F w W → Calls Tryz.prog 153 #[.slice bo m capb, .int .i64 k] W fun e w' => e = .returned (.int .i64 (hs.getD k 1)) ∧ w' = W) := Lib.hid fun W hW => heightIn W bo m capb k hs (HH.out.offIf hG hW)
            have HR0 := Lib.hid hr
            have HC0 := Lib.hid (And.intro hsk (And.intro hits (And.intro hpb (And.intro hA0 (And.intro hAv hin)))))
            have k0 : (0 : Int) ≤ (k : Int) := by omega
            have kR : (k : Int) < n := by omega
            clear hsk hits hpb hA0 hAv hin hr hne
            have HBP : Hid (∀ W2 e w4, Below wr.heap.size wr W2 → PutPost W2 p (A0 ++ B0).length most (A0 ++ B0.takeWhile (fun a => decide (a.v ≤ vs.getD k 0))) (B0.dropWhile (fun a => decide (a.v ≤ vs.getD k 0))) (vs.getD k 0) (hOf (hs.getD k 1)) e w4 → BatchPut w F p most l vs hs w.heap.size w3.heap.size n k A0 e w4) := Lib.hid fun W2 e w4 hb hp =>
              batchPut HC0.out HR0.out HST.out (by have := HR.out; have := insMany_length l vs hs k; have h2 := congrArg List.length HC0.out.2.1; simp only [itsOf, List.length_map] at h2; omega) hkn hb hp
            clear HST
            generalize vs.getD k 0 = y at *
            generalize hs.getD k 1 = hy at *
            go_wp2
            refine wp_region_still_tail 6 (by kernel_rfl) (by kernel_rfl) ?_
            simp only [List.take_succ_cons, List.take_zero, List.drop_succ_cons, List.drop_zero]
            repeat still_step
            still_call (HHt.out wr.drew HR0.out.wr.drew)
            refine wpStill_nil ?_
            change wpList _ _ _ _ _ wr.drew
            have HB1 := Lib.hid (show Below wr.heap.size wr wr.drew from (Below.refl _ _).drew)
            clear p0 p1 p2 p3 p4 p5 p6 p7 cv
            generalize wr.drew = W2 at *
            go_wp2_with fail
            refine (C.out W2 HB1.out).mono ?_
            intro e w4 hp
            obtain ⟨G, he, hp4, h5⟩ := HBP.out W2 e w4 HB1.out hp
            subst he
            have H5 := Lib.hid h5
            clear hp h5
            have r0 := hp4.cell 0 (by omega)
            have f0 := hp4.f 0
            have r1 := hp4.cell 1 (by omega)
            have f1 := hp4.f 1
            have r2 := hp4.cell 2 (by omega)
            have f2 := hp4.f 2
            have r3 := hp4.cell 3 (by omega)
            have f3 := hp4.f 3
            have r4 := hp4.cell 4 (by omega)
            have f4 := hp4.f 4
            have r5 := hp4.cell 5 (by omega)
            have f5 := hp4.f 5
            have r6 := hp4.cell 6 (by omega)
            have f6 := hp4.f 6
            have r7 := hp4.cell 7 (by omega)
            have f7 := hp4.f 7
            clear hp4
            go_upto_region 10 with (fail)
            obtain ⟨cg, fg, hb5⟩ := H5.out _ rfl
            have HB5 := Lib.hid hb5
            clear hb5
            generalize ((((((((w4.setCell ⟨w3.heap.size, 0, none⟩ (.pointer (some ⟨G 0, 0, none⟩))).setCell ⟨w3.heap.size, 1, none⟩ (.pointer (some ⟨G 1, 0, none⟩))).setCell ⟨w3.heap.size, 2, none⟩ (.pointer (some ⟨G 2, 0, none⟩))).setCell ⟨w3.heap.size, 3, none⟩ (.pointer (some ⟨G 3, 0, none⟩))).setCell ⟨w3.heap.size, 4, none⟩ (.pointer (some ⟨G 4, 0, none⟩))).setCell ⟨w3.heap.size, 5, none⟩ (.pointer (some ⟨G 5, 0, none⟩))).setCell ⟨w3.heap.size, 6, none⟩ (.pointer (some ⟨G 6, 0, none⟩))).setCell ⟨w3.heap.size, 7, none⟩ (.pointer (some ⟨G 7, 0, none⟩))) = w5 at *
            clear H5
            go_wp2
            go_roundw
            case rel => exact ⟨k + 1, by omega, by go_num, HB5.out⟩
            case measure => simp [intOf]; omega
          · obtain rfl : k = n := by omega
            have HQ := Lib.hid (batchEnd H.out HRm.out HV.out.1 hr)
            clear hr
            go_wp2
            go_ret
            exact HQ.out

theorem batchS (h : Skip w F p most l) (ao bo : Option Addr) (n cap m capb : Nat) (vs hs : List Int) (hv : Reads .i32 w ao n vs) (hh : Reads .i64 w bo m hs) (hF : Off F ao) (hG : Off F bo) (hn : n ≤ 1000000) (hcap : n ≤ cap) :
    Calls Tryz.prog 139 #[.pointer (some ⟨p, 0, none⟩), .slice ao n cap, .slice bo m capb] w (BatchPostS w F p most l vs hs) :=
  batchAnyIf h ao bo n cap m capb vs hs hv hh (fun _ => hF) (fun _ => hG) hn hcap
end

end Go.Proofs.YtniefplgijpckaaGreat
namespace Go.Proofs.YtniefplgijpckaaGreat
open Go.RowKit

/-- A list whose blocks are all new, and nothing old is touched. -/
def AtS (w : World) (F : Nat → Prop) (p : Nat) (most : Int) (bs : List It) (wr : World) : Prop := Skip wr F p most bs ∧ Below w.heap.size w wr ∧ ∀ g, F g → w.heap.size ≤ g

section
variable {w a b : World} {F G : Nat → Prop} {p q : Nat} {most mo2 : Int} {bs bs' cs : List It}
theorem AtS.new (h : Skip b (New w b) p most bs) (hb : Below w.heap.size w b) : AtS w (New w b) p most bs b := ⟨h, hb, fun _ hg => hg.1⟩
theorem AtS.fresh (h : AtS w F p most bs a) (hb : Below a.heap.size a b) : AtS w F p most bs b := ⟨h.1.fresh hb, h.2.1.trans (hb.mono h.2.1.size), h.2.2⟩
theorem AtS.drew (h : AtS w F p most bs a) : AtS w F p most bs a.drew := h.fresh (Below.refl _ _).drew
theorem AtS.next (h : AtS w F p most bs a) (d : DidS F p most bs' a b) : ∃ F', AtS w F' p most bs' b ∧ Wrote F a b ∧ Later F F' a := by
  obtain ⟨F', s, wr, l⟩ := d
  refine ⟨F', ⟨s, h.2.1.trans (wr.below h.2.1.size h.2.2), fun g hg => ?_⟩, wr, l⟩
  rcases l g hg with h1 | h1
  · exact h.2.2 g h1
  · exact Nat.le_trans h.2.1.size h1
theorem AtS.lt (h : AtS w F p most bs a) : ∀ g, F g → g < a.heap.size := h.1.foot
theorem AtS.copied (h : AtS w F p most bs a) (s : Skip b (New a b) q mo2 cs) (hb : Below a.heap.size a b) : AtS w (New a b) q mo2 cs b ∧ Apart F (New a b) :=
  ⟨⟨s, h.2.1.trans (hb.mono h.2.1.size), fun _ hg => Nat.le_trans h.2.1.size hg.1⟩, New.apart h.lt⟩
/-- Old memory is none of its own. -/
theorem AtS.old (h : AtS w F p most bs a) {ao : Option Addr} {n : Nat} (ho : 0 < n → ∀ x, ao = some x → x.block < w.heap.size) : 0 < n → Off F ao := fun hp x e hf => by
  have := ho hp x e
  have := h.2.2 _ hf
  omega
/-- New memory is none of its own. -/
theorem AtS.young (h : AtS w F p most bs a) {ao : Option Addr} {n : Nat} (ho : 0 < n → ∀ x, ao = some x → a.heap.size ≤ x.block) : 0 < n → Off F ao := fun hp x e hf => by
  have := ho hp x e
  have := h.lt _ hf
  omega

/-- TwoS lists that know nothing of one another. -/
structure TwoS (w : World) (F G : Nat → Prop) (p q : Nat) (most mo2 : Int) (bs cs : List It) (a : World) : Prop where
  c : AtS w F p most bs a
  d : AtS w G q mo2 cs a
  ap : Apart F G

theorem TwoS.fresh (h : TwoS w F G p q most mo2 bs cs a) (hb : Below a.heap.size a b) : TwoS w F G p q most mo2 bs cs b := ⟨h.c.fresh hb, h.d.fresh hb, h.ap⟩
theorem TwoS.nextC (h : TwoS w F G p q most mo2 bs cs a) (d : DidS F p most bs' a b) : ∃ F', TwoS w F' G p q most mo2 bs' cs b := by
  obtain ⟨F', k, wr, l⟩ := h.c.next d
  exact ⟨F', k, ⟨h.d.1.apart wr h.ap.symm, k.2.1, h.d.2.2⟩, l.apart h.ap h.d.lt⟩
theorem TwoS.nextD (h : TwoS w F G p q most mo2 bs cs a) (d : DidS G q mo2 bs' a b) : ∃ G', TwoS w F G' p q most mo2 bs bs' b := by
  obtain ⟨G', k, wr, l⟩ := h.d.next d
  exact ⟨G', ⟨h.c.1.apart wr h.ap, k.2.1, h.c.2.2⟩, k, (l.apart h.ap.symm h.c.lt).symm⟩
end


/-- Numbers that are told, in new memory. -/
def ToldR (w : World) (zs : List Int) (e : Ending) (w' : World) : Prop :=
  ∃ ao cap, e = .returned (.slice ao zs.length cap) ∧ Reads .i32 w' ao zs.length zs ∧ zs.length ≤ cap ∧ (∀ a, ao = some a → w.heap.size ≤ a.block) ∧ Below w.heap.size w w'

theorem ToldL.reads {w w' : World} {zs : List Int} {e : Ending} (h : ToldL w zs e w') : ToldR w zs e w' := by
  obtain ⟨v, he, ho, hb⟩ := h
  obtain ⟨ao, cap, rfl, h1, h2, h3⟩ := reads_own ho
  exact ⟨ao, cap, he, h1, h2, h3, hb⟩

theorem levelR {w : World} {F : Nat → Prop} {p : Nat} {most : Int} {l : List It} (h : Skip w F p most l) (k : Int) :
    Calls Tryz.prog 126 #[.pointer (some ⟨p, 0, none⟩), .int .i64 k] w (ToldR w (lvlOf l k)) := (levelAny h k).mono fun _ _ h => h.reads
theorem itemsR {w : World} {F : Nat → Prop} {p : Nat} {most : Int} {l : List It} (h : Skip w F p most l) :
    Calls Tryz.prog 124 #[.pointer (some ⟨p, 0, none⟩)] w (ToldR w (l.map It.v)) := (itemsAny h).mono fun _ _ h => h.reads

theorem lit1 (w : World) (x : Int) (k : IntKind) (t : TypeId) : Reads k (w.alloc (.cells #[.int k x] t)) (some ⟨w.heap.size, 0, none⟩) 1 [x] := by
  refine ⟨rfl, fun _ => ⟨_, _, rfl, by simp, fun i hi => ?_⟩⟩
  obtain rfl : i = 0 := by omega
  simp
theorem lit2 (w : World) (x y : Int) (k : IntKind) (t : TypeId) : Reads k (w.alloc (.cells #[.int k x, .int k y] t)) (some ⟨w.heap.size, 0, none⟩) 2 [x, y] := by
  refine ⟨rfl, fun _ => ⟨_, _, rfl, by simp, fun i hi => ?_⟩⟩
  have : i = 0 ∨ i = 1 := by omega
  rcases this with rfl | rfl <;> simp

/-- An Insert, whether there is room or not. -/
def insL (most : Int) (l : List It) (t : It) : List It := if (l.length : Int) < most then insIt t l else l
theorem insertS {w : World} {F : Nat → Prop} {p : Nat} {most : Int} {l : List It} (h : Skip w F p most l) (v hv : Int) :
    Calls Tryz.prog 156 #[.pointer (some ⟨p, 0, none⟩), .int .i32 v, .int .i64 hv] w fun e w' => e = .returned (.bool (decide ((l.length : Int) < most))) ∧ DidS F p most (insL most l ⟨v, hOf hv⟩) w w' := by
  unfold insL
  by_cases hf : (l.length : Int) < most
  · rw [if_pos hf, decide_eq_true hf]
    exact insertOk h hf v hv
  · rw [if_neg hf, decide_eq_false hf]
    exact (insertFull h (by omega) v hv).mono fun e w' ⟨he, hw⟩ => ⟨he, by subst hw; exact h.did (Below.refl _ _)⟩

/-- Without a list nothing is put. -/
theorem batchNil (w : World) (ao : Option Addr) (n cap : Nat) (x : Value) (hn : n ≤ 1000000) :
    Calls Tryz.prog 139 #[.pointer none, .slice ao n cap, x] w fun e w' => e = .returned (.slice (some ⟨w.heap.size, 0, none⟩) n n) ∧ w'.heap[w.heap.size]? = some (.cells ((toldB 0 n).map Value.bool).toArray 4 (0, 0)) ∧ Below w.heap.size w w' := by
  obtain ⟨i0, hi, hz0, hz1, hz2⟩ := info_parts infoBool
  by_cases h0 : n = 0
  · subst h0
    go_enter Tryz.func139, Tryz.ntmps139
    go_wp2_with (first
      | (at_make; refine wpList_make_full _ rfl _ _ 56 rfl w.heap.size 4 i0 _ 1 Tryz.underlying56 hi hz0 hz1 .i64 .i64 _ _ 0 rfl rfl rfl rfl (by omega) (by simp only [maxLen]; omega) (Nat.le_refl _) ?_; intro w1 hown1 hgrow1; have HM := Lib.hid (madeBools hown1 hgrow1); clear hown1 hgrow1)
      | (go_at_call 125; refine (lenNil _).mono ?_; rintro e w' ⟨rfl, rfl⟩) | (go_at_call 135; refine (mostNil _).mono ?_; rintro e w' ⟨rfl, rfl⟩))
    go_ret
    exact ⟨rfl, HM.out⟩
  · have hp : (0 : Int) < n := by omega
    go_enter Tryz.func139, Tryz.ntmps139
    go_wp2_with (first
      | (at_make; refine wpList_make_full _ rfl _ _ 56 rfl w.heap.size 4 i0 _ 1 Tryz.underlying56 hi hz0 hz1 .i64 .i64 _ _ n rfl rfl rfl rfl (by rw [hz2]; omega) (by simp only [maxLen]; omega) (Nat.le_refl _) ?_; intro w1 hown1 hgrow1; have HM := Lib.hid (madeBools hown1 hgrow1); clear hown1 hgrow1)
      | (go_at_call 125; refine (lenNil _).mono ?_; rintro e w' ⟨rfl, rfl⟩) | (go_at_call 135; refine (mostNil _).mono ?_; rintro e w' ⟨rfl, rfl⟩))
    go_ret
    exact ⟨rfl, HM.out⟩

end Go.Proofs.YtniefplgijpckaaGreat
