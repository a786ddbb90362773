/-
  slices.Insert puts one number into a list that lies anywhere in its block: in its room, or all in new memory. Conditions: a list of at most a thousand numbers; the number lies in a block of its own.
-/
import Derived.Test.YtejnadokjnfagaaBase8
import Derived.Lib.AppendZerosOnto
import Derived.Lib.Overlaps
import Derived.Laws.Externs
import Derived.Laws.IdiomCopy
import Derived.Laws.NewBlocks
namespace Go.Proofs.Ytejnadokjnfagaa
open Go.RowKit Go.Lib

/-- copy, where its run is known. -/
theorem wpList_copy_known {P : Program} (w : World) {ops : Array Oper} {rest : List Oper} {o : Oper} {a : Act} {Q : Exit → Act → World → Prop} (hgd : o.guard = none) (d s : Operand) (t t' : TypeId)
    (ho : o.op = .call { callee := .builtin .copy, args := #[d, s], argTypes := #[t, t'] }) (v u : Value) (hd : a.eval d = v) (hs : a.eval s = u) {v' : Value} {w' : World}
    (hr : (Builtin.copy_ #[t, t'] o.type #[v, u]).run P w = .ok v' w') (h : wpList P ops Q rest (a.put o.dst v') w') : wpList P ops Q (o :: rest) a w :=
  wpList_plain hgd fun K hK => by
    unfold Oper.wp
    simp [execOp, ho, resolve, invoke, builtin, hd, hs, hr, Result.andThen]
    exact hK _ _ h
theorem step_copy_known {P : Program} {ops : Array Oper} {o : Oper} {a : Act} {w : World} {K : Act → World → Prop} {Q : Exit → Act → World → Prop} {E : Prop}
    (hg : o.guard = none) (d x : Operand) (dT sT : TypeId) (hop : o.op = Op.call { callee := Callee.builtin Builtin.copy, args := #[d, x], argTypes := #[dT, sT] })
    (v u : Value) (hd : a.eval d = v) (hx : a.eval x = u) {v' : Value} {w' : World} (hr : (Builtin.copy_ #[dT, sT] o.type #[v, u]).run P w = .ok v' w') (hK : K (a.put o.dst v') w') :
    if Region.wanted o (yielded ops a.tmps) = true then Oper.wp P o a w K Q else E := by
  have hw : Region.wanted o (yielded ops a.tmps) = true := by simp [Region.wanted, hg]
  rw [if_pos hw]
  unfold Oper.wp
  simp [execOp, hop, resolve, invoke, builtin, hd, hx, hr, Result.andThen]
  exact hK

/-- What a call that changes a list leaves. -/
def TailPost (w : World) (v : Value) (ys : List Value) (e : Ending) (w' : World) : Prop :=
  ∃ v', e = .returned v' ∧ Tail w' v' ys ∧ w.grownBy w' v.ownBlock ∧ ∀ g, v'.ownBlock = some g → v.ownBlock = some g ∨ w.heap.size ≤ g

/-- What stands behind an insertion in place. -/
theorem tail_shift {w : World} {xs : List Value} {g off cap i : Nat} {x : Value} (hl : g < w.heap.size) (hm : cap ≤ maxLen) (hx : ∀ j, j < xs.length → w.cell? ⟨g, off + j, none⟩ = xs[j]?) (hr : ∀ j, j < cap → (w.cell? ⟨g, off + j, none⟩).isSome = true ∧ w.frozen? ⟨g, off + j, none⟩ = false)
    (hi : i < xs.length) (hc : xs.length + 1 ≤ cap) :
    TailPost w (.slice (some ⟨g, off, none⟩) xs.length cap) (xs.take i ++ x :: xs.drop i) (.returned (.slice (some ⟨g, off, none⟩) (xs.length + 1) cap)) ((w.drew.setCells g (off + (i + 1)) (xs.drop i)).setCells g (off + i) [x]) := by
  have h1 : ∀ j, j < cap → ((w.drew.setCells g (off + (i + 1)) (xs.drop i)).cell? ⟨g, off + j, none⟩).isSome = true := fun j hj => isSome_setCells g _ _ _ _ (hr j hj).1
  have hyl : (xs.take i ++ x :: xs.drop i).length = xs.length + 1 := by simp; omega
  refine ⟨_, rfl, .inr ⟨g, off, cap, by rw [hyl], by rw [size_setCells, size_setCells]; exact hl, by rw [hyl]; exact hc, hm, fun j hj => ?_, fun j hj => ⟨isSome_setCells g _ _ _ _ (h1 j hj), ?_⟩⟩, ?_, fun k hk => .inl hk⟩
  · rw [hyl] at hj
    rcases Nat.lt_trichotomy j i with h | h | h
    · rw [World.cell?_setCells_out g _ _ _ _ (fun _ _ => Or.inl (by show off + j < off + i; omega)), World.cell?_setCells_out g _ _ _ _ (fun _ _ => Or.inl (by show off + j < off + (i + 1); omega))]
      rw [List.getElem?_append_left (by simp; omega), List.getElem?_take, if_pos h]
      exact hx j (by omega)
    · subst h
      have := World.cell?_setCells_in g [x] (off + j) (w.drew.setCells g (off + (j + 1)) (xs.drop j)) (fun k hk => by simp at hk; subst hk; exact h1 j (by omega)) 0 (by simp)
      have this2 : ((w.drew.setCells g (off + (j + 1)) (xs.drop j)).setCells g (off + j) [x]).cell? ⟨g, off + j, none⟩ = some x := this
      rw [this2, List.getElem?_append_right (by simp; omega)]
      simp [show j - min j xs.length = 0 by omega]
    · rw [World.cell?_setCells_out g _ _ _ _ (fun _ _ => Or.inr (by show off + i + 1 ≤ off + j; omega))]
      have := World.cell?_setCells_in g (xs.drop i) (off + (i + 1)) w.drew (fun k hk => by rw [Nat.add_assoc]; exact (hr _ (by simp at hk; omega)).1) (j - (i + 1)) (by simp; omega)
      rw [show off + (i + 1) + (j - (i + 1)) = off + j by omega] at this
      rw [this, List.getElem?_append_right (by simp; omega), List.length_take, show j - min i xs.length = j - (i + 1) + 1 by omega, List.getElem?_cons_succ, List.getElem?_eq_getElem (by simp; omega)]
  · rw [World.frozen?_setCells, World.frozen?_setCells]
    exact (hr j hj).2
  · have a := grownBy_setCells w.drew g (off + (i + 1)) (xs.drop i)
    have b := grownBy_setCells (w.drew.setCells g (off + (i + 1)) (xs.drop i)) g (off + i) [x]
    exact ⟨b.os.trans a.os, b.tape.trans a.tape, b.output.trans a.output, Nat.le_trans a.size b.size, fun k hk hne => (b.block k (Nat.lt_of_lt_of_le hk a.size) hne).trans (a.block k hk hne)⟩

/-- What stands behind an insertion in new memory. -/
theorem tail_anew {w W : World} {xs : List Value} {v : Value} {G i : Nat} {x : Value} {R : Array Value} {e : TypeId} (hi : i < xs.length) (hG : xs.length + 1 ≤ G) (hm : G ≤ maxLen) (hR : R.size = G) (hRt : ∀ j, j < i → R[j]? = xs[j]?)
    (hW : W = ((w.drew.alloc (.cells R e)).setCells w.heap.size i [x]).drew.setCells w.heap.size (i + 1) (xs.drop i)) :
    TailPost w v (xs.take i ++ x :: xs.drop i) (.returned (.slice (some ⟨w.heap.size, 0, none⟩) (xs.length + 1) G)) W := by
  have hyl : (xs.take i ++ x :: xs.drop i).length = xs.length + 1 := by simp; omega
  have c0 : ∀ j, (w.drew.alloc (.cells R e)).cell? ⟨w.heap.size, j, none⟩ = R[j]? := fun j => World.cell?_alloc_new w.drew _ _ j
  have s0 : ∀ j, j < G → ((w.drew.alloc (.cells R e)).cell? ⟨w.heap.size, j, none⟩).isSome = true := fun j hj => by rw [c0, Array.getElem?_eq_getElem (by omega)]; rfl
  have s1 : ∀ j, j < G → (((w.drew.alloc (.cells R e)).setCells w.heap.size i [x]).cell? ⟨w.heap.size, j, none⟩).isSome = true := fun j hj => isSome_setCells _ _ _ _ _ (s0 j hj)
  subst hW
  refine ⟨_, rfl, .inr ⟨w.heap.size, 0, G, by rw [hyl], by rw [size_setCells]; show w.heap.size < ((w.drew.alloc (.cells R e)).setCells w.heap.size i [x]).heap.size; rw [size_setCells]; simp, by rw [hyl]; exact hG, hm, fun j hj => ?_, fun j hj => ⟨?_, ?_⟩⟩, ?_, fun k hk => .inr (by simp only [Value.ownBlock, Option.some.injEq] at hk; omega)⟩
  · rw [hyl] at hj
    rw [Nat.zero_add]
    rcases Nat.lt_trichotomy j i with h | h | h
    · rw [World.cell?_setCells_out _ _ _ _ _ (fun _ _ => Or.inl (by show j < i + 1; omega))]
      show ((w.drew.alloc (.cells R e)).setCells w.heap.size i [x]).cell? _ = _
      rw [World.cell?_setCells_out _ _ _ _ _ (fun _ _ => Or.inl (by show j < i; omega)), c0, hRt j h, List.getElem?_append_left (by simp; omega), List.getElem?_take, if_pos h]
    · subst h
      rw [World.cell?_setCells_out _ _ _ _ _ (fun _ _ => Or.inl (by show j < j + 1; omega))]
      show ((w.drew.alloc (.cells R e)).setCells w.heap.size j [x]).cell? _ = _
      have := World.cell?_setCells_in w.heap.size [x] j (w.drew.alloc (.cells R e)) (fun k hk => by simp at hk; subst hk; exact s0 j (by omega)) 0 (by simp)
      have this2 : ((w.drew.alloc (.cells R e)).setCells w.heap.size j [x]).cell? ⟨w.heap.size, j, none⟩ = some x := this
      rw [this2, List.getElem?_append_right (by simp; omega)]
      simp [show j - min j xs.length = 0 by omega]
    · have := World.cell?_setCells_in w.heap.size (xs.drop i) (i + 1) ((w.drew.alloc (.cells R e)).setCells w.heap.size i [x]).drew (fun k hk => s1 _ (by simp at hk; omega)) (j - (i + 1)) (by simp; omega)
      rw [show i + 1 + (j - (i + 1)) = j by omega] at this
      rw [this, List.getElem?_append_right (by simp; omega), List.length_take, show j - min i xs.length = j - (i + 1) + 1 by omega, List.getElem?_cons_succ, List.getElem?_eq_getElem (by simp; omega)]
  · rw [Nat.zero_add]; exact isSome_setCells _ _ _ _ _ (s1 j hj)
  · rw [World.frozen?_setCells]
    show ((w.drew.alloc (.cells R e)).setCells w.heap.size i [x]).frozen? _ = _
    rw [World.frozen?_setCells]
    exact World.frozen?_alloc_new w.drew _ _ _
  · refine ⟨?_, ?_, ?_, ?_, fun k hk _ => ?_⟩
    · rw [World.os_setCells]; show ((w.drew.alloc (.cells R e)).setCells w.heap.size i [x]).os = _; rw [World.os_setCells]; rfl
    · rw [tape_setCells]; show ((w.drew.alloc (.cells R e)).setCells w.heap.size i [x]).tape = _; rw [tape_setCells]; rfl
    · rw [World.output_setCells]; show ((w.drew.alloc (.cells R e)).setCells w.heap.size i [x]).output = _; rw [World.output_setCells]; rfl
    · rw [size_setCells]; show _ ≤ ((w.drew.alloc (.cells R e)).setCells w.heap.size i [x]).heap.size; rw [size_setCells]; simp
    · rw [World.heap_setCells_other _ _ _ _ (by show k < ((w.drew.alloc (.cells R e)).setCells w.heap.size i [x]).heap.size; rw [size_setCells]; simp; omega) (by omega)]
      show ((w.drew.alloc (.cells R e)).setCells w.heap.size i [x]).heap[k]? = _
      rw [World.heap_setCells_other _ _ _ _ (by simp; omega) (by omega)]
      exact Below.heap_alloc w.drew _ k hk

section
variable {w : World}
theorem shape_of {g k : Nat} (h : (w.cell? ⟨g, k, none⟩).isSome = true) : ∃ T n, w.shape? g = some (T, n) ∧ n ≠ 0 := by
  unfold World.cell? at h
  unfold World.shape?
  split at h
  · rename_i c T fr hg
    simp only [Option.isSome_none, Bool.false_eq_true, ↓reduceIte] at h
    refine ⟨T, c.size, by simp only at hg; rw [hg], ?_⟩
    obtain ⟨u, hu⟩ := Option.isSome_iff_exists.1 h
    have := Array.getElem?_eq_some_iff.1 hu
    obtain ⟨h1, _⟩ := this
    omega
  · simp at h

theorem infoSize32 : (Try.prog.info? 21).map (·.size) = some 1 := by kernel_rfl

set_option maxRecDepth 100000 in
set_option maxHeartbeats 8000000 in
/-- In place. -/
theorem insertShift (g off cap i vb : Nat) (xs : List Value) (x : Value) (T : TypeId) (hl : g < w.heap.size) (hm : cap ≤ maxLen) (hx : ∀ j, j < xs.length → w.cell? ⟨g, off + j, none⟩ = xs[j]?) (hr : ∀ j, j < cap → (w.cell? ⟨g, off + j, none⟩).isSome = true ∧ w.frozen? ⟨g, off + j, none⟩ = false)
    (h1 : ∀ v ∈ xs, v.oneCell' = true) (h1x : x.oneCell' = true) (hv : w.heap[vb]? = some (.cells #[x] T (0, 0))) (hne : vb ≠ g) (hi : i < xs.length) (hc : xs.length + 1 ≤ cap) :
    Calls Try.prog 43 #[.slice (some ⟨g, off, none⟩) xs.length cap, .int .i64 i, .slice (some ⟨vb, 0, none⟩) 1 1] w (TailPost w (.slice (some ⟨g, off, none⟩) xs.length cap) (xs.take i ++ x :: xs.drop i)) := by
  have HEnd := Lib.hid (tail_shift (x := x) hl hm hx hr hi hc)
  have hc63 : cap ≤ 9223372036854775807 := by unfold maxLen at hm; omega
  have hvc : w.cell? ⟨vb, 0, none⟩ = some x := by simp [World.cell?, hv]
  obtain ⟨tB, kB, hsb, hkB⟩ := shape_of (hr 0 (by omega)).1
  have hsa : w.shape? vb = some (T, 1) := by simp [World.shape?, hv]
  have hfa : w.frozen? ⟨vb, 0, none⟩ = false := by simp [World.frozen?, hv]
  have hfe : w.frozen? ⟨vb, 1, none⟩ = false := by simp [World.frozen?, hv]
  have hov : ∀ lb cb, (callFunc 49 #[.slice (some ⟨vb, 0, none⟩) 1 1, .slice (some ⟨g, off + (i + 1), none⟩) lb cb]).run Try.prog w = .ok (.value (.bool false)) w := fun lb cb => by
    rw [run_callFunc_extern Try.func49 (by kernel_rfl) (by kernel_rfl) (by kernel_rfl) (e := Extern.SlicesOverlaps.overlaps #[22, 22] #[4]) (by kernel_rfl),
      Lib.run_overlaps_apart w 22 4 21 Try.underlying22 1 Try.sizeOf21 ⟨vb, 0, none⟩ ⟨g, off + (i + 1), none⟩ 1 1 lb cb hne T tB 1 kB hsa hsb hkB hfa hfe]
    rfl
  generalize hn : xs.length = n at *
  have hdl : (xs.drop i).length = n - i := by rw [List.length_drop, hn]
  have hw1 : IntKind.i64.wrap ((i : Int) + 1) = (i : Int) + 1 := by rw [IntKind.wrap_i64]; omega
  have hb1 : (0 : Int) ≤ (i : Int) + 1 := by omega
  have hin : (i : Int) ≤ n := by omega
  have hz2 : ¬ ((i : Int) = (n : Int)) := by omega
  have htn : ((i : Int) + 1).toNat = i + 1 := by omega
  have hb2 : ¬ (cap = i + 1) := by omega
  have hb3 : (i : Int) + 1 ≤ (n : Int) + 1 := by omega
  have hb5 : (i : Int) ≤ (n : Int) + 1 := by omega
  have hb4 : ¬ (cap = i) := by omega
  have hb6 : (n : Int) + 1 ≤ cap := by omega
  have hcp1 : ∀ ty dc sc, (Builtin.copy_ #[22, 22] ty #[.slice (some ⟨g, off + (i + 1), none⟩) (n + 1 - (i + 1)) dc, .slice (some ⟨g, off + i, none⟩) (n + 1 - i) sc]).run Try.prog w.drew = .ok (goInt (xs.drop i).length) (w.drew.setCells g (off + (i + 1)) (xs.drop i)) := fun ty dc sc =>
    run_copy_cells w.drew _ _ ty 21 g (off + (i + 1)) (n + 1 - (i + 1)) dc ⟨g, off + i, none⟩ (n + 1 - i) sc (xs.drop i) Try.underlying22 infoSize32 (by rw [hdl]; simp only [Nat.min_def]; split <;> omega)
      (fun j v hj => by
        rw [List.getElem?_drop] at hj
        have hj2 : i + j < xs.length := by
          rcases Nat.lt_or_ge (i + j) xs.length with h | h
          · exact h
          · rw [List.getElem?_eq_none h] at hj; cases hj
        rw [Addr.add_lit, Nat.add_assoc]
        exact (hx (i + j) (by omega)).trans hj)
      (fun j hj => by rw [Nat.add_assoc]; exact (hr _ (by omega)).1) (fun j hj => by rw [Nat.add_assoc]; exact (hr _ (by omega)).2) (fun v hv => h1 v (List.mem_of_mem_drop hv))
  have hcp2 : ∀ ty dc, (Builtin.copy_ #[22, 22] ty #[.slice (some ⟨g, off + i, none⟩) (n + 1 - i) dc, .slice (some ⟨vb, 0, none⟩) 1 1]).run Try.prog (w.drew.setCells g (off + (i + 1)) (xs.drop i)) = .ok (goInt 1) ((w.drew.setCells g (off + (i + 1)) (xs.drop i)).setCells g (off + i) [x]) := fun ty dc =>
    run_copy_cells _ _ _ ty 21 g (off + i) (n + 1 - i) dc ⟨vb, 0, none⟩ 1 1 [x] Try.underlying22 infoSize32 (by simp only [Nat.min_def]; simp; omega)
      (fun j v hj => by
        match j with
        | 0 =>
          simp at hj
          subst hj
          rw [Addr.add_lit, World.cell?_setCells_out _ _ _ _ _ (fun h _ => absurd h hne)]
          exact hvc
        | j + 1 => simp at hj)
      (fun j hj => isSome_setCells _ _ _ _ _ (by simp at hj; subst hj; exact (hr i (by omega)).1)) (fun j hj => by rw [World.frozen?_setCells, Nat.add_assoc]; simp at hj; subst hj; exact (hr i (by omega)).2) (by simpa using h1x)
  obtain ⟨W1, hW1⟩ : ∃ W1, W1 = w.drew.setCells g (off + (i + 1)) (xs.drop i) := ⟨_, rfl⟩
  rw [← hW1] at hcp1 hcp2
  rw [show n + 1 - (i + 1) = n - i by omega] at hcp1
  have HW1 := Lib.hid hW1
  have HN := Lib.hid hn
  clear hx hr h1 hv hsa hsb hfa hfe hvc hkB hdl hn hW1
  go_enter Try.func43, Try.ntmps43
  go_wp2_with (simp only [hov])
  go_region_law (refine step_copy_known rfl _ _ 22 22 rfl _ _ (by simp [Act.eval, Act.put]) (by simp [Act.eval, Act.put]) (hcp1 _ _ _) ?_)
  go_wp2_with (at_builtin; refine wpList_copy_known _ rfl _ _ 22 22 rfl _ _ rfl rfl (hcp2 _ _) ?_)
  go_ret
  rw [HW1.out]
  have := HEnd.out
  exact this
end

end Go.Proofs.Ytejnadokjnfagaa
