/-
  A list of deeds beside an object. Conditions: none; no Go function is walked here. Deeds that came in are fine where there is not too much of them. Conditions: none; no Go function is walked here.
-/
import Derived.Test.YtniefplgijpckaaGreatMk12m
namespace Go.Proofs.YtniefplgijpckaaGreat
open Go.RowKit Go.Lib

/-- Deeds that lie beside what is written to. -/
structure DeedsIn (F : Nat → Prop) (wr : World) (ao : Option Addr) (N : Nat) (ds : List Deed12) : Prop where
  at' : DeedsAt wr ao N ds
  cl : Clear F wr ao N
  fine : ∀ x ∈ ds, x.fine wr
  bits : ∀ x ∈ ds, Clear F wr x.bo x.nb
  ops : ∀ x ∈ ds, Clear F wr x.ao x.na

section
variable {F F' : Nat → Prop} {w wr w1 W : World} {ao : Option Addr} {N j o : Nat} {ds : List Deed12} {k m : Int} {pl : Bool} {s : List It × List Bool}
theorem deedsOld (h : DeedsAt w ao N ds) : 0 < N → ∀ x, ao = some x → x.block < w.heap.size := fun hp x hx => by
  obtain ⟨b', off, e', l', _⟩ := h.2 hp
  rw [e'] at hx
  injection hx with hx
  subst hx
  exact l'
theorem Clear.deeds (h : Clear F wr ao N) (r : DeedsAt wr ao N ds) (hw : Wrote F wr W) : DeedsAt W ao N ds := by
  refine ⟨r.1, fun hp => ?_⟩
  obtain ⟨b, off, e, hl, hc⟩ := r.2 hp
  have hn : ¬ F b := (h hp).1 _ e
  exact ⟨b, off, e, Nat.lt_of_lt_of_le hl hw.size, fun i hi j u hu => (hw.cell (p := ⟨b, _, none⟩) hl hn).trans (hc i hi j u hu)⟩
theorem DeedsIn.fresh (h : DeedsIn F wr ao N ds) (hb : Below wr.heap.size wr W) : DeedsIn F W ao N ds :=
  ⟨h.at'.keep hb, h.cl.fresh hb, fun x hx => (h.fine x hx).keep hb, fun x hx => (h.bits x hx).fresh hb, fun x hx => (h.ops x hx).fresh hb⟩
theorem DeedsIn.next (h : DeedsIn F wr ao N ds) (hw : Wrote F wr W) (l : Later F F' wr) : DeedsIn F' W ao N ds :=
  ⟨h.cl.deeds h.at' hw, h.cl.next hw l, fun x hx => (h.fine x hx).off ⟨(h.bits x hx).off, (h.ops x hx).off⟩ hw, fun x hx => (h.bits x hx).next hw l, fun x hx => (h.ops x hx).next hw l⟩
/-- Deeds that were made behind an object. -/
theorem DeedsIn.new (P : OAt w F o k m pl s w1) (dA : DeedsAt wr ao N ds) (df : ∀ x ∈ ds, x.fine wr) (_ : Below w1.heap.size w1 wr) (nA : ∀ y, ao = some y → w1.heap.size ≤ y.block) (nD : ∀ x ∈ ds, NewD w1 x) : DeedsIn F wr ao N ds :=
  ⟨dA, fun hp => ⟨fun x hx hf => by have := nA x hx; have := P.lt _ hf; omega, deedsOld dA hp⟩, df,
    fun x hx hp => ⟨fun y hy hf => by have := (nD x hx).1 y hy; have := P.lt _ hf; omega, readsOld (df x hx).bs hp⟩,
    fun x hx hp => ⟨fun y hy hf => by have := (nD x hx).2 y hy; have := P.lt _ hf; omega, opsOld (df x hx).os hp⟩⟩
/-- Deeds that were there ahead of an object. -/
theorem DeedsIn.old (P : OAt w F o k m pl s wr) (dA : DeedsAt w ao N ds) (df : ∀ x ∈ ds, x.fine w) : DeedsIn F wr ao N ds :=
  ⟨dA.keep P.2.1, fun hp => ⟨fun x hx hf => by have := deedsOld dA hp x hx; have := P.2.2 _ hf; omega, fun x hx => Nat.lt_of_lt_of_le (deedsOld dA hp x hx) P.2.1.size⟩, fun x hx => (df x hx).keep P.2.1,
    fun x hx hp => ⟨fun y hy hf => by have := readsOld (df x hx).bs hp y hy; have := P.2.2 _ hf; omega, fun y hy => Nat.lt_of_lt_of_le (readsOld (df x hx).bs hp y hy) P.2.1.size⟩,
    fun x hx hp => ⟨fun y hy hf => by have := opsOld (df x hx).os hp y hy; have := P.2.2 _ hf; omega, fun y hy => Nat.lt_of_lt_of_le (opsOld (df x hx).os hp y hy) P.2.1.size⟩⟩
/-- One of them. -/
theorem DeedsIn.at_ (h : DeedsIn F wr ao N ds) (hj : j < N) : ∃ b off, ao = some ⟨b, off, none⟩ ∧ b < wr.heap.size ∧ (∀ i u, (ds.getD j Deed12.no).cells[i]? = some u → wr.cell? ⟨b, off + j * 3 + i, none⟩ = some u) ∧ ¬ F b ∧ ds.getD j Deed12.no ∈ ds ∧ Clear F wr (ds.getD j Deed12.no).bo (ds.getD j Deed12.no).nb ∧ Clear F wr (ds.getD j Deed12.no).ao (ds.getD j Deed12.no).na ∧ (ds.getD j Deed12.no).fine wr := by
  obtain ⟨b, off, e, hl, hc⟩ := h.at'.2 (by omega)
  have hm : ds.getD j Deed12.no ∈ ds := by have := h.at'.1; simp [List.getD, show j < ds.length by omega]
  exact ⟨b, off, e, hl, hc j hj, (h.cl (by omega)).1 _ e, hm, h.bits _ hm, h.ops _ hm, h.fine _ hm⟩
end

end Go.Proofs.YtniefplgijpckaaGreat
namespace Go.Proofs.YtniefplgijpckaaGreat
open Go.RowKit Go.Lib

theorem goodFine {w : World} {x : Deed12} (h : x.good w) (hn : x.nb ≤ 1000) (hm : x.na ≤ 1000) : x.fine w := ⟨h.1, h.2.1.1.1, h.2.1.1.2.2.2, h.2.2.1.1, h.2.2.1.2.2.2, hn, hm⟩
theorem sumN_two (xs : List Deed12) : ∀ k, k ≤ xs.length → 2 * k ≤ sumN xs k
  | 0, _ => by simp
  | k + 1, h => by
    have := sumN_two xs k (by omega)
    rw [sumN_succ xs k (by omega)]
    omega
theorem argFine {w : World} {ao : Option Addr} {len cap : Nat} {xs : List Deed12} (hx : ArgDeeds w ao len cap xs) (hs : sumN xs xs.length ≤ 300) : (∀ x ∈ xs, x.fine w) ∧ len ≤ 150 := by
  refine ⟨fun x h => goodFine (hx.2.2.2 x h) ?_ ?_, ?_⟩
  · have := sumN_all xs x h; omega
  · have := sumN_all xs x h; omega
  · have := sumN_two xs xs.length (Nat.le_refl _); have := hx.1.1; omega
theorem argLens {w : World} {ao : Option Addr} {len cap : Nat} {xs : List Deed12} (hx : ArgDeeds w ao len cap xs) : ∀ x ∈ xs, x.nb ≤ 140737488351232 ∧ x.na ≤ 140737488351232 := fun x h => ⟨(hx.2.2.2 x h).2.1.2, (hx.2.2.2 x h).2.2.2⟩

/-- The levels of an object. -/
def lvls (k : Int) (l : List It) (j : Int) : List Int := if k = 3 then lvlOf l j else []
theorem lvls_len {k j : Int} {l : List It} (h : l.length ≤ 1000) : (lvls k l j).length ≤ 1000 := by
  unfold lvls
  split
  · have h1 : (lvlOf l j).length ≤ l.length := by unfold lvlOf; rw [List.length_map]; exact List.length_filter_le _ _
    omega
  · simp

end Go.Proofs.YtniefplgijpckaaGreat
