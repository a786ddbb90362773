/-
  Run of package spec tells what runZ and runT say, in new memory. Conditions: at most a thousand items and a thousand operations.
-/
import Derived.Test.YtejnadokjnfagaaRunPl8
import Derived.Laws.EntriesVeiled
import Derived.Deep.DeepCutAuto
namespace Go.Proofs.Ytejnadokjnfagaa
open Go.RowKit Go.Lib

theorem zeroAct (w : World) : (zeroValue 58).run Try.prog w = .ok (.agg #[.nilFunc, .nilFunc]) w := by kernel_rfl
theorem zeroMap (w : World) : (zeroValue 51).run Try.prog w = .ok (.map none) w := by kernel_rfl

/-- A map of what an object does, or none. -/
def DoesAt (w : World) (dv : Value) (es : Array MapEntry) : Prop := (∃ m, dv = .map (some m) ∧ MapIs w m es) ∨ (dv = .map none ∧ es = #[])

section
variable {w w' : World} {dv : Value} {es : Array MapEntry}
theorem DoesAt.lookYes (h : DoesAt w dv es) {k : Int} {i : Nat} {v : Value} (hf : Instr.findNow (.int .u8) (.int .u8 k) es.toList 0 = some (some (i, v))) :
    (Instr.lookup 51 dv (.int .u8 k) true).run Try.prog w = .ok (.tuple #[v, .bool true]) w := by
  rcases h with ⟨m, rfl, hm⟩ | ⟨_, rfl⟩
  · exact run_look8 w _ 5 58 m es k true i v Try.underlying51 Try.underlying5 hm hf
  · cases hf
theorem DoesAt.lookNo (h : DoesAt w dv es) {k : Int} (hf : Instr.findNow (.int .u8) (.int .u8 k) es.toList 0 = some none) :
    (Instr.lookup 51 dv (.int .u8 k) true).run Try.prog w = .ok (.tuple #[.agg #[.nilFunc, .nilFunc], .bool false]) w := by
  rcases h with ⟨m, rfl, hm⟩ | ⟨rfl, rfl⟩
  · exact run_look8_none w _ 5 58 m es k true _ Try.underlying51 Try.underlying5 hm (zeroAct w) hf
  · exact run_look8_nil w _ 5 58 k true _ Try.underlying51 Try.underlying5 (zeroAct w)
theorem DoesAt.below (h : DoesAt w dv es) (hb : Below w.heap.size w w') : DoesAt w' dv es := by
  rcases h with ⟨m, e, hm⟩ | h
  · exact .inl ⟨m, e, hm.below hb⟩
  · exact .inr h
theorem DoesAt.off {F : Nat → Prop} (h : DoesAt w dv es) (hF : ∀ g, dv = .map (some g) → ¬ F g) (hw : Wrote F w w') : DoesAt w' dv es := by
  rcases h with ⟨m, e, hm⟩ | h
  · exact .inl ⟨m, e, (hw.block m hm.lt (hF m e)).trans hm⟩
  · exact .inr h
theorem DoesAt.lt (h : DoesAt w dv es) : ∀ g, dv = .map (some g) → g < w.heap.size := by
  rintro g e
  rcases h with ⟨m, e', hm⟩ | ⟨e', _⟩
  · rw [e'] at e; injection e with e; injection e with e; subst e; exact hm.lt
  · rw [e'] at e; cases e

/-- What acts tells of an object. -/
theorem ActsAt.look {m0 : Nat} (h : ActsAt w m0) (obj : Int) : ∃ dv, (Instr.lookup 52 (.map (some m0)) (.int .u8 obj) false).run Try.prog w = .ok dv w ∧ DoesAt w dv (objM obj) := by
  obtain ⟨m1, m2, m3, h0, h1, h2, h3⟩ := h
  have L := fun i v hf => run_look8 (P := Try.prog) w 52 5 51 m0 _ obj false i v Try.underlying52 Try.underlying5 h0 hf
  by_cases e1 : obj = 1
  · subst e1
    exact ⟨_, L 0 _ rfl, .inl ⟨m1, rfl, h1⟩⟩
  · by_cases e2 : obj = 2
    · subst e2
      exact ⟨_, L 1 _ rfl, .inl ⟨m2, rfl, h2⟩⟩
    · by_cases e3 : obj = 3
      · subst e3
        exact ⟨_, L 2 _ rfl, .inl ⟨m3, rfl, h3⟩⟩
      · refine ⟨.map none, ?_, .inr ⟨rfl, by simp [objM, e1, e2, e3]⟩⟩
        exact run_look8_none w _ 5 51 m0 _ obj false _ Try.underlying52 Try.underlying5 h0 (zeroMap w) (find_none _ _ (fun e he => by
          simp at he
          rcases he with rfl | rfl | rfl
          · exact ⟨_, rfl, fun h => e1 h.symm⟩
          · exact ⟨_, rfl, fun h => e2 h.symm⟩
          · exact ⟨_, rfl, fun h => e3 h.symm⟩))
end

/-- A row of what is told, in a block of its own. -/
def RRow (w : World) (b : Nat) (rs : List (Int × Int)) : Prop := w.heap[b]? = some (.cells (flatO rs).toArray 32 (0, 0))
theorem flatO_set (rs : List (Int × Int)) (i : Nat) (c x : Int) : ((flatO rs).set (i * 2) (.int .u8 c)).set (i * 2 + 1) (.int .i32 x) = flatO (rs.set i (c, x)) := by
  induction rs generalizing i with
  | nil => rfl
  | cons o os ih =>
    cases i with
    | zero => simp [flatO]
    | succ i =>
      have := ih i
      rw [show (i + 1) * 2 = i * 2 + 2 by omega, show i * 2 + 2 + 1 = i * 2 + 1 + 2 by omega]
      simpa [flatO, List.flatMap_cons] using this
theorem flatO_set1 (rs : List (Int × Int)) (i : Nat) (c : Int) : (flatO rs).set (i * 2) (.int .u8 c) = flatO (rs.set i (c, (rs.getD i (0, 0)).2)) := by
  induction rs generalizing i with
  | nil => rfl
  | cons o os ih =>
    cases i with
    | zero => simp [flatO]
    | succ i =>
      have := ih i
      rw [show (i + 1) * 2 = i * 2 + 2 by omega]
      simpa [flatO, List.flatMap_cons] using this

section
variable {w w' : World} {b i : Nat} {rs : List (Int × Int)}
theorem RRow.lt (h : RRow w b rs) : b < w.heap.size := lt_of_block h
theorem RRow.keep (h : RRow w b rs) (hb : w'.heap[b]? = w.heap[b]?) : RRow w' b rs := hb.trans h
theorem RRow.below (h : RRow w b rs) (hb : Below w.heap.size w w') : RRow w' b rs := (hb.block b h.lt).trans h
theorem RRow.free (h : RRow w b rs) (j : Nat) : w.frozen? ⟨b, j, none⟩ = false := by unfold RRow at h; simp [World.frozen?, h]
theorem RRow.cells (h : RRow w b rs) (hi : i < rs.length) : w.cell? ⟨b, i * 2, none⟩ = some (.int .u8 (rs.getD i (0, 0)).1) ∧ w.cell? ⟨b, i * 2 + 1, none⟩ = some (.int .i32 (rs.getD i (0, 0)).2) := by
  obtain ⟨h1, h2⟩ := flatO_at rs i hi
  unfold RRow at h
  simp [World.cell?, h, h1, h2]
theorem RRow.set2 (h : RRow w b rs) (i : Nat) (c x : Int) : RRow ((w.setCell ⟨b, i * 2, none⟩ (.int .u8 c)).setCell ⟨b, i * 2 + 1, none⟩ (.int .i32 x)) b (rs.set i (c, x)) := by
  unfold RRow at h ⊢
  rw [heap_setCell_same _ b _ _ _ _ (heap_setCell_same w b _ _ _ _ h), ← flatO_set]
  simp
theorem RRow.set1 (h : RRow w b rs) (i : Nat) (c : Int) : RRow (w.setCell ⟨b, i * 2, none⟩ (.int .u8 c)) b (rs.set i (c, (rs.getD i (0, 0)).2)) := by
  unfold RRow at h ⊢
  rw [heap_setCell_same w b _ _ _ _ h, ← flatO_set1]
  simp
theorem RRow.ops (h : RRow w b rs) : OpsAt w (some ⟨b, 0, none⟩) rs.length rs := ⟨rfl, fun _ => ⟨b, 0, rfl, h.lt, fun i hi => by simpa using h.cells hi⟩⟩
end

theorem DoesAt.row {w w' : World} {b : Nat} {rs : List (Int × Int)} {dv : Value} {es : Array MapEntry} (h : DoesAt w dv es) (r : RRow w b rs) (hw : Wrote (fun g => g = b) w w') : DoesAt w' dv es := by
  refine h.off (fun g e hg => ?_) hw
  subst hg
  rcases h with ⟨m, e', hm⟩ | ⟨e', _⟩
  · rw [e'] at e; injection e with e; injection e with e; subst e
    unfold MapIs at hm
    unfold RRow at r
    rw [hm] at r
    simp at r
  · rw [e'] at e; cases e

/-- What is told, after k of n. -/
def toldK (t : List (Int × Int)) (n k : Nat) : List (Int × Int) := t ++ List.replicate (n - k) (0, 0)
theorem toldK_put (t : List (Int × Int)) (n k : Nat) (c x : Int) (ht : t.length = k) (h : k < n) : (toldK t n k).set k (c, x) = toldK (t ++ [(c, x)]) n (k + 1) := by
  unfold toldK
  rw [List.set_append_right _ _ (by omega), ht, Nat.sub_self, show n - k = (n - (k + 1)) + 1 by omega, List.replicate_succ, List.set_cons_zero]
  simp
theorem toldK_at (t : List (Int × Int)) (n k : Nat) (ht : t.length = k) (h : k < n) : (toldK t n k).getD k (0, 0) = (0, 0) := by
  unfold toldK
  rw [show n - k = (n - (k + 1)) + 1 by omega, List.replicate_succ]
  simp [List.getD, ← ht]

/-- What holds at each round's head of Run. -/
structure RunAt (w : World) (obj m : Int) (zs : List Int) (os : List (Int × Int)) (dv : Value) (b n k : Nat) (v : Value) (wr : World) : Prop where
  t : Tail wr v ((runZ obj m zs (os.take k)).map (Value.int .i32))
  r : RRow wr b (toldK (runT obj m zs (os.take k)) n k)
  d : DoesAt wr dv (objM obj)
  bl : Below w.heap.size w wr
  vb : ∀ g, v.ownBlock = some g → w.heap.size ≤ g ∧ g ≠ b ∧ dv ≠ .map (some g)
  bb : w.heap.size ≤ b

section
variable {w wr w' : World} {obj m : Int} {zs : List Int} {os : List (Int × Int)} {dv : Value} {b n k : Nat} {v v' : Value} {c x y kd : Int} {o : Int × Int}
theorem RunAt.fresh (h : RunAt w obj m zs os dv b n k v wr) (hb : Below wr.heap.size wr w') : RunAt w obj m zs os dv b n k v w' :=
  ⟨tail_in h.t hb, h.r.below hb, h.d.below hb, h.bl.trans (hb.mono h.bl.size), h.vb, h.bb⟩

theorem take_op8 (os : List (Int × Int)) (k : Nat) (h : k < os.length) (e : os.getD k (0, 0) = o) : os.take (k + 1) = os.take k ++ [o] := by
  rw [List.take_succ_eq_append_getElem h, ← e]; simp [List.getD, h]

/-- The row of what is told, and all else, behind a call of what an operation does. -/
theorem RunAt.called (h : RunAt w obj m zs os dv b n k v wr) {zs' : List Int} (d : DidTail wr v zs' c x (.returned (.tuple #[v', .agg #[.int .u8 c, .int .i32 x]])) w') :
    Tail w' v' (zs'.map (Value.int .i32)) ∧ RRow w' b (toldK (runT obj m zs (os.take k)) n k) ∧ DoesAt w' dv (objM obj) ∧ Below w.heap.size w w' ∧ (∀ g, v'.ownBlock = some g → w.heap.size ≤ g ∧ g ≠ b ∧ dv ≠ .map (some g)) ∧ Wrote (Own v) wr w' := by
  obtain ⟨v2, e, t, hw, l⟩ := d
  simp only [Ending.returned.injEq, Value.tuple.injEq, Array.mk.injEq, List.cons.injEq, and_true] at e
  obtain rfl := e
  refine ⟨t, h.r.keep (hw.block b h.r.lt (fun e => (h.vb b e).2.1 rfl)), h.d.off (fun g e hg => (h.vb g hg).2.2 e) hw, h.bl.trans (hw.below h.bl.size (fun g hg => (h.vb g hg).1)), fun g hg => ?_, hw⟩
  rcases l g hg with h1 | h1
  · exact h.vb g h1
  · refine ⟨Nat.le_trans h.bl.size h1, fun e => ?_, fun e => ?_⟩
    · have := h.r.lt; omega
    · have := h.d.lt g e; omega

/-- One operation more. -/
theorem RunAt.next (hk : k < n) (hn : os.length = n) (ho : os.getD k (0, 0) = o) (hbb : w.heap.size ≤ b)
    (t : Tail w' v' ((objL obj m (runZ obj m zs (os.take k)) o.1 o.2).map (Value.int .i32))) (r : RRow w' b ((toldK (runT obj m zs (os.take k)) n k).set k (objC obj m (runZ obj m zs (os.take k)) o.1, objV obj (runZ obj m zs (os.take k)) o.1)))
    (d : DoesAt w' dv (objM obj)) (bl : Below w.heap.size w w') (vb : ∀ g, v'.ownBlock = some g → w.heap.size ≤ g ∧ g ≠ b ∧ dv ≠ .map (some g)) : RunAt w obj m zs os dv b n (k + 1) v' w' := by
  have e := take_op8 os k (by omega) ho
  refine ⟨by rw [e, runZ_snoc]; exact t, ?_, d, bl, vb, hbb⟩
  rw [e, runT_snoc, ← toldK_put _ _ _ _ _ (by rw [runT_length]; simp; omega) hk]
  exact r
end

/-- What Run leaves. -/
def RunPost (w : World) (obj m : Int) (zs : List Int) (os : List (Int × Int)) (e : Ending) (w' : World) : Prop :=
  ∃ v' b, e = .returned (.tuple #[v', .slice (some ⟨b, 0, none⟩) os.length os.length]) ∧ Tail w' v' ((runZ obj m zs os).map (Value.int .i32)) ∧ RRow w' b (runT obj m zs os) ∧ (∀ g, v'.ownBlock = some g → w.heap.size ≤ g ∧ g ≠ b) ∧ w.heap.size ≤ b ∧ Below w.heap.size w w'

theorem RunAt.done {w wr : World} {obj m : Int} {zs : List Int} {os : List (Int × Int)} {dv : Value} {b n : Nat} {v : Value} (h : RunAt w obj m zs os dv b n n v wr) (hn : os.length = n) : RunPost w obj m zs os (.returned (.tuple #[v, .slice (some ⟨b, 0, none⟩) n n])) wr := by
  obtain ⟨h1, h2, h3, h4, h5, h6⟩ := h
  subst hn
  rw [List.take_length] at h1 h2
  unfold toldK at h2
  rw [Nat.sub_self, List.replicate_zero, List.append_nil] at h2
  exact ⟨v, b, rfl, h1, h2, fun g hg => ⟨(h5 g hg).1, (h5 g hg).2.1⟩, h6, h4⟩

/-- copy into a row that was made for it. -/
theorem copy_made {P : Program} (w : World) (t ty e T : TypeId) (b n cap : Nat) (ao : Option Addr) (zs : List Int) (ht : P.underlying t = some (.slice e)) (hs : (P.info? e).map (·.size) = some 1) (hb : w.heap[b]? = some (.cells (List.replicate n (Value.int .i32 0)).toArray T (0, 0))) (hr : Reads .i32 w ao n zs) (hm : n ≤ maxLen) :
    ∃ w', (Builtin.copy_ #[t, t] ty #[.slice (some ⟨b, 0, none⟩) n n, .slice ao n cap]).run P w = .ok (goInt n) w' ∧ Tail w' (.slice (some ⟨b, 0, none⟩) n n) (zs.map (Value.int .i32)) ∧ Wrote (fun g => g = b) w w' := by
  have hl := hr.1
  have hbl : b < w.heap.size := lt_of_block hb
  have hcs : ∀ j, j < n → (w.cell? ⟨b, j, none⟩).isSome = true := fun j hj => by simp [World.cell?, hb, hj]
  have hfz : ∀ j, w.frozen? ⟨b, j, none⟩ = false := fun j => by simp [World.frozen?, hb]
  rcases Nat.eq_zero_or_pos n with h0 | h0
  · subst h0
    have hz : zs = [] := List.eq_nil_of_length_eq_zero hl
    subst hz
    exact ⟨w, run_copy_none w t t ty e _ _ 0 0 0 cap ht hs (by simp), .inr ⟨b, 0, 0, rfl, hbl, Nat.le_refl _, Nat.zero_le _, fun j hj => by simp at hj, fun j hj => by omega⟩, Wrote.refl _ _⟩
  · obtain ⟨ad, rfl, hc⟩ := reads_src hr h0
    have hlm : (zs.map (Value.int .i32)).length = n := by rw [List.length_map, hl]
    have hrun := run_copy_cells (P := P) w t t ty e b 0 n n ad n cap (zs.map (Value.int .i32)) ht hs (by rw [hlm]; simp) hc (fun j hj => by rw [Nat.zero_add]; exact hcs j (by omega)) (fun j hj => by rw [Nat.zero_add]; exact hfz j) (ints_oneCell _ _)
    rw [hlm] at hrun
    refine ⟨_, hrun, .inr ⟨b, 0, n, by rw [hlm], by rw [size_setCells]; exact hbl, by rw [hlm]; exact Nat.le_refl _, hm, fun j hj => ?_, fun j hj => ⟨isSome_setCells b _ _ _ _ (by rw [Nat.zero_add]; exact hcs j hj), by rw [World.frozen?_setCells]; exact hfz _⟩⟩, ?_⟩
    · have := World.cell?_setCells_in b (zs.map (Value.int .i32)) 0 w (fun k hk => by rw [Nat.zero_add]; exact hcs k (by omega)) j hj
      rw [this, List.getElem?_eq_getElem hj]
    · have g := grownBy_setCells w b 0 (zs.map (Value.int .i32))
      exact ⟨g.os, g.tape, g.output, g.size, fun k hk hne => g.block k hk (fun e => hne (by simpa using e))⟩


end Go.Proofs.Ytejnadokjnfagaa
