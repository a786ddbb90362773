/-
  A line of pushes that wait, in memory: what push of package match does. Conditions: a line as Lin says.
-/
import Derived.Test.YtephmkekgmpnpaaLnPl9
import Derived.Test.YtephmkekgmpnpaaStkAt9
namespace Go.Proofs.Ytephmkekgmpnpaa
open Go.RowKit

theorem infoI : (Try.prog.info? 3).map (fun i => (i.zero, i.size, i.bytes)) = some (some (.int .i64 0), 1, 8) := by kernel_rfl

/-- A line in block p, its places' list being v. -/
structure LinV (w : World) (p : Nat) (v : Value) (most there : Int) (ps : List Int) : Prop where
  block : w.heap[p]? = some (.cells #[.int .i64 most, .int .i64 there, v] 75 (0, 0))
  own : w.ownsRow 0 3 1 v ps.length (ps.map (Value.int .i64))

/-- A line whose blocks are all of L. -/
def Lin (w : World) (L : Nat → Prop) (p : Nat) (most there : Int) (ps : List Int) : Prop :=
  ∃ v, LinV w p v most there ps ∧ L p ∧ (∀ g, v.ownBlock = some g → L g) ∧ ∀ g, L g → g < w.heap.size

/-- What a call on a line leaves. -/
def LDid (L : Nat → Prop) (p : Nat) (most there : Int) (ps : List Int) (w w' : World) : Prop := ∃ L', Lin w' L' p most there ps ∧ Wrote L w w' ∧ Later L L' w

section
variable {w w' : World} {L G : Nat → Prop} {p : Nat} {v : Value} {most there : Int} {ps : List Int}

theorem LinV.lt (h : LinV w p v most there ps) : p < w.heap.size := lt_of_block h.block
theorem LinV.c0 (h : LinV w p v most there ps) : w.cell? ⟨p, 0, none⟩ = some (.int .i64 most) := by simp [World.cell?, h.block]
theorem LinV.c1 (h : LinV w p v most there ps) : w.cell? ⟨p, 1, none⟩ = some (.int .i64 there) := by simp [World.cell?, h.block]
theorem LinV.c2 (h : LinV w p v most there ps) : w.cell? ⟨p, 2, none⟩ = some v := by simp [World.cell?, h.block]
theorem LinV.f (h : LinV w p v most there ps) (j : Nat) : w.frozen? ⟨p, j, none⟩ = false := by simp [World.frozen?, h.block]
theorem LinV.ne (h : LinV w p v most there ps) : v.ownBlock ≠ some p := by
  intro e
  rcases h.own.2 with ⟨rfl, _⟩ | ⟨g, cap, cur, rfl, _, hg, _⟩
  · simp [Value.ownBlock] at e
  · simp only [Value.ownBlock, Option.some.injEq] at e
    subst e
    have hb := h.block
    rw [hg] at hb
    simp at hb
theorem LinV.keep (h : LinV w p v most there ps) (hp : w'.heap[p]? = w.heap[p]?) (hv : ∀ g, v.ownBlock = some g → w'.heap[g]? = w.heap[g]?) : LinV w' p v most there ps :=
  ⟨hp.trans h.block, own_keep h.own hv⟩
/-- What stands behind a store of the list. -/
theorem LinV.setList (h : LinV w p v most there ps) {v' : Value} {ps' : List Int} (ho : w.ownsRow 0 3 1 v' ps'.length (ps'.map (Value.int .i64))) (hne : v'.ownBlock ≠ some p) :
    LinV (w.setCell ⟨p, 2, none⟩ v') p v' most there ps' := by
  refine ⟨?_, ownsRow_setCell_other ho hne _⟩
  rw [heap_setCell_same w p 2 _ _ _ h.block]
  rfl
theorem LinV.setThere (h : LinV w p v most there ps) (t : Int) : LinV (w.setCell ⟨p, 1, none⟩ (.int .i64 t)) p v most t ps := by
  refine ⟨?_, ownsRow_setCell_other h.own h.ne _⟩
  rw [heap_setCell_same w p 1 _ _ _ h.block]
  rfl

theorem Lin.lt (h : Lin w L p most there ps) : p < w.heap.size := by obtain ⟨v, m, _⟩ := h; exact m.lt
theorem Lin.foot (h : Lin w L p most there ps) : ∀ g, L g → g < w.heap.size := by obtain ⟨v, _, _, _, h4⟩ := h; exact h4
theorem Lin.in (h : Lin w L p most there ps) : L p := by obtain ⟨v, _, h2, _⟩ := h; exact h2
/-- New memory, and what others write, is none of a line's. -/
theorem Lin.apart (h : Lin w L p most there ps) (hw : Wrote G w w') (ha : Apart L G) : Lin w' L p most there ps := by
  obtain ⟨v, m, h2, h3, h4⟩ := h
  exact ⟨v, m.keep (hw.block _ m.lt (ha p h2)) (fun g hg => hw.block _ (h4 g (h3 g hg)) (ha g (h3 g hg))), h2, h3, fun g hg => Nat.lt_of_lt_of_le (h4 g hg) hw.size⟩
theorem Lin.fresh (h : Lin w L p most there ps) (hb : Below w.heap.size w w') : Lin w' L p most there ps := h.apart (Wrote.of hb (fun _ => False)) (fun _ _ h => h)
theorem Lin.did (h : Lin w L p most there ps) (hb : Below w.heap.size w w') : LDid L p most there ps w w' := ⟨L, h.fresh hb, Wrote.of hb L, Later.refl _ _⟩
theorem LDid.trans {a b c : World} {ps' : List Int} {t' : Int} (h : Wrote L a b) (hl : Later L G a) (d : LDid G p most t' ps' b c) : LDid L p most t' ps' a c := by
  obtain ⟨L', h1, h2, h3⟩ := d
  exact ⟨L', h1, h.step hl h2, hl.trans h3 h.size⟩

theorem linNew (w : World) (most there : Int) : Lin (w.alloc (.cells #[.int .i64 most, .int .i64 there, .slice none 0 0] 75)) (New w (w.alloc (.cells #[.int .i64 most, .int .i64 there, .slice none 0 0] 75))) w.heap.size most there [] :=
  ⟨.slice none 0 0, ⟨heap_alloc_new w _, World.ownsRow_nil _ _ _ _⟩, ⟨Nat.le_refl _, by simp⟩, by simp [Value.ownBlock], fun g hg => hg.2⟩

set_option maxHeartbeats 1600000 in
theorem lpushFull (h : Lin w L p most there ps) (k : Int) (h0 : 0 ≤ there) (h1 : there + ps.length ≤ 1000) (hf : ¬ there + ps.length < most) :
    Calls Try.prog 46 #[.pointer (some ⟨p, 0, none⟩), .int .i64 k] w fun e w' => e = .returned (.int .u8 3) ∧ ∃ q, w' = w.drewN q := by
  obtain ⟨v, m, _⟩ := h
  have c0 := m.c0
  have c1 := m.c1
  have c2 := m.c2
  obtain ⟨ao, cap, rfl⟩ := ownShape m.own
  clear m
  have e1 : IntKind.i64.wrap (there + ps.length) = there + ps.length := IntWalk.i64_in _ (by omega)
  have hf2 : most ≤ there + ps.length := by omega
  go_enter Try.func46, Try.ntmps46
  go_wp2
  go_quiet (fail)
  go_wp2
  go_ret
  exact ⟨rfl, _, rfl⟩

/-- What stands behind the append. -/
theorem lpushed {v' : Value} {w1 : World} {o : Obj} {x : Int} (m : LinV w p v most there ps) (h2 : L p) (h3 : ∀ g, v.ownBlock = some g → L g) (h4 : ∀ g, L g → g < w.heap.size)
    (ho : w1.ownsRow 0 3 1 v' (ps.length + 1) (ps.map (Value.int .i64) ++ [.int .i64 x])) (hg : (w.alloc o).grownBy w1 v.ownBlock) (hl : ∀ g, v'.ownBlock = some g → v.ownBlock = some g ∨ (w.alloc o).heap.size ≤ g) :
    w1.cell? ⟨p, 2, none⟩ = some v ∧ w1.frozen? ⟨p, 2, none⟩ = false ∧ LDid L p most there (ps ++ [x]) w (w1.setCell ⟨p, 2, none⟩ v') := by
  have hp := m.lt
  have ep : w1.heap[p]? = w.heap[p]? := (hg.block p (by simp; omega) (fun e => m.ne e.symm)).trans (Below.heap_alloc _ _ _ hp)
  have hne : v'.ownBlock ≠ some p := fun e => by
    rcases hl p e with e' | e'
    · exact m.ne e'
    · simp at e'; omega
  refine ⟨(World.cell?_of_block (a := ⟨p, 2, none⟩) ep).trans m.c2, (World.frozen?_of_block (a := ⟨p, 2, none⟩) ep).trans (m.f 2), fun g => L g ∨ v'.ownBlock = some g, ⟨v', ⟨?_, ?_⟩, .inl h2, fun g hg' => .inr hg', ?_⟩, ?_, ?_⟩
  · rw [heap_setCell_same w1 p 2 _ _ _ (ep.trans m.block)]; rfl
  · have := ownsRow_setCell_other (a := ⟨p, 2, none⟩) ho hne v'
    simpa using this
  · intro g hg'
    have hs : w.heap.size ≤ w1.heap.size := Nat.le_trans (by simp) hg.size
    rcases hg' with h | h
    · have := h4 g h
      simp [World.setCell]; omega
    · simpa [World.setCell] using (ho.lt g h).2
  · exact (((Wrote.refl L w).alloc o).grown hg (fun g e => .inl (h3 g e))).setCell (.inr h2) _
  · intro g hg'
    rcases hg' with h | h
    · exact .inl h
    · rcases hl g h with e | e
      · exact .inl (h3 g e)
      · exact .inr (by simp at e; omega)

set_option maxHeartbeats 1600000 in
theorem lpushOk (h : Lin w L p most there ps) (k : Int) (h0 : 0 ≤ there) (h1 : there + ps.length ≤ 1000) (hf : there + ps.length < most) :
    Calls Try.prog 46 #[.pointer (some ⟨p, 0, none⟩), .int .i64 k] w fun e w' => e = .returned (.int .u8 1) ∧ LDid L p most there (ps ++ [k]) w w' := by
  obtain ⟨v, m, h2, h3, h4⟩ := h
  have c0 := m.c0
  have c1 := m.c1
  have c2 := m.c2
  have HM := Lib.hid m
  have HA := Lib.hid (And.intro h2 (And.intro h3 h4))
  obtain ⟨ao, cap, rfl⟩ := ownShape m.own
  obtain ⟨i0, hi, hz0, hz1, hz2⟩ := info_parts infoI
  have hl : ps.length ≤ 1000 := by omega
  clear m h2 h3 h4
  have e1 : IntKind.i64.wrap (there + ps.length) = there + ps.length := IntWalk.i64_in _ (by omega)
  go_enter Try.func46, Try.ntmps46
  go_wp2
  go_quiet (fail)
  clear e1
  have HM2 := Lib.hid (show LinV (w.drewN nq) p _ most there ps from HM.out.keep rfl (fun _ _ => rfl))
  have HB2 := Lib.hid (show Below w.heap.size w (w.drewN nq) from below_drewN (Below.refl _ _) _)
  have HF2 := Lib.hid (show ∀ g, L g → g < (w.drewN nq).heap.size from HA.out.2.2)
  have c2' := HM2.out.c2
  clear c0 c1 c2
  generalize w.drewN nq = W at *
  go_wp2_with (at_builtin; refine wpList_append_later rfl _ _ 34 rfl 0 3 i0 _ 1 8 Try.underlying34 hi hz0 hz1 hz2 rfl (by decide) _ _ _ rfl (HM2.out.own.alloc _) ⟨W.heap.size, 0, none⟩ 1 1 [.int .i64 k] rfl rfl (by intro j u hu; cases j <;> simp at hu; subst hu; go_simp) (by intro u hu; simp at hu; subst hu; rfl) (by simp only [maxLen]; omega) (by omega) (Nat.zero_le _) ?_; intro v' w1 o1 g1 l1; obtain ⟨q1, q2, q3⟩ := lpushed HM2.out HA.out.1 HA.out.2.1 HF2.out o1 g1 l1; obtain ⟨ao', cap', rfl⟩ := ownShape o1; have HQ := Lib.hid q3; clear q3 o1 g1 l1)
  go_ret
  exact ⟨rfl, LDid.trans (Wrote.of HB2.out L) (Later.refl _ _) HQ.out⟩

/-- What stands behind the cut. -/
theorem lpopped {g cap k : Nat} {y : Int} (hk : k = ps.length) (m : LinV w p (.slice (some ⟨g, 0, none⟩) (k + 1) cap) most there (ps ++ [y])) (h2 : L p) (h3 : L g) (h4 : ∀ g, L g → g < w.heap.size) :
    LDid L p most there ps w (w.setCell ⟨p, 2, none⟩ (.slice (some ⟨g, 0, none⟩) k cap)) := by
  subst hk
  have ho := m.own
  simp only [List.length_append, List.length_cons, List.length_nil, Nat.zero_add] at ho
  have hc := own_cut ho (Nat.le_succ ps.length)
  refine ⟨L, ⟨_, m.setList (v' := .slice (some ⟨g, 0, none⟩) ps.length cap) ?_ m.ne, h2, ?_, ?_⟩, (Wrote.refl L w).setCell (.inr h2) _, Later.refl _ _⟩
  · simpa [List.take_append] using hc
  · intro g' hg'
    simp only [Value.ownBlock, Option.some.injEq] at hg'
    subst hg'
    exact h3
  · simpa [World.setCell] using h4
end

end Go.Proofs.Ytephmkekgmpnpaa
