/-
  A range over a function value whose rounds may go on, break, or return: N rounds at most, one behind the other. Between two rounds the function may write to blocks of its own (F). Conditions: outside of any other round; no Go function is looked at here. Which records a list comes to (a path), in plain lists; the map of those that were met. Conditions: none. Contracts of package list: cell, see, from, all, stale. Conditions: a memory as Mem1 says.
-/
import Derived.Test.YtllgcnljpehgeaaRecA14
import Derived.RangeFuncNested
import Derived.RangeFuncBound
import Derived.RangeFuncCalls
import Derived.RangeFuncLeaves
import Derived.RangeFuncBox
import Derived.Shelf.Abstract
import Derived.Shelf.RegionOpen
import Derived.OwnWalkIn
import Derived.TacticsInMore
import Derived.LoopNIn
import Derived.LoopIn
import Derived.Maps.AppendAt
import Derived.MapKept
import Derived.Carry
namespace Go.Proofs.Ytllgcnljpehgeaa.M2
open Go.RowKit Go.Shelf

/-- What was made since there were s blocks is as it was. -/
def Still (s : Nat) (A A' : World) : Prop := A.heap.size ≤ A'.heap.size ∧ ∀ b, s ≤ b → b < A.heap.size → A'.heap[b]? = A.heap[b]?

theorem Still.refl (s : Nat) (A : World) : Still s A A := ⟨Nat.le_refl _, fun _ _ _ => rfl⟩
theorem Still.trans {s : Nat} {A B C : World} (h : Still s A B) (k : Still s B C) : Still s A C := ⟨Nat.le_trans h.1 k.1, fun b h1 h2 => (k.2 b h1 (Nat.lt_of_lt_of_le h2 h.1)).trans (h.2 b h1 h2)⟩
theorem Still.of {s : Nat} {A B : World} (h : Below A.heap.size A B) : Still s A B := ⟨h.size, fun b _ h2 => h.block b h2⟩

/-- What a function tells that goes through N things, the thing number k being told as encs k: ahead of it I k holds, at it Ib k, behind all Ie; what it writes to meanwhile are blocks of F, and a round leaves its own new blocks as they were. -/
def SeqG (Fe : Fence) (n : Nat) (P : Program) (gf : Nat) (rc lb : Array Value) (encs : Nat → Array Value) (N : Nat) (F : Nat → Prop) (I Ib : Nat → World → Prop) (Ie : World → Prop) : Prop :=
  ∀ (l : Nat) (J : Nat → World → Prop) (Jb : Nat → Nat → World → Prop) (Jx : Nat → World → Prop) (Je : World → Prop) (W : World), (∀ k A, J k A → I k A) → (∀ k A A', J k A → k < N → _root_.Go.Proofs.Ytllgcnljpehgeaa.Wrote F A A' → Ib k A' → Jb k A.heap.size A') → (∀ A A', J N A → _root_.Go.Proofs.Ytllgcnljpehgeaa.Wrote F A A' → Ie A' → Je A') →
    (∀ k s A, Jb k s A → k < N → YieldAt Fe (n - 1) P l (encs k) A fun e A' => (e = .returned (.bool true) ∧ J (k + 1) A' ∧ Still s A A') ∨ (e = .returned (.bool false) ∧ Jx k A')) → J 0 W →
    CallsIn Fe n P gf (rc ++ #[.func (.yield l) #[] #[]] ++ lb) W fun e W' => (∃ v, e = .returned v) ∧ (Je W' ∨ ∃ k, k < N ∧ Jx k W')

/-- The two blocks that the loop itself has laid. -/
def LoopAt (D : Nat) (o : Obj) (W : World) : Prop := W.heap[D + 1]? = some o ∧ W.heap[D]? = some (.deferred (some []))

/-- How the body of a round may be left: it goes on, breaks, or returns. -/
def roundPost (B id : Nat) (I Ix : Nat → World → Prop) (Ir : Nat → World → Prop) (k s : Nat) (W : World) : Exit → Act → World → Prop
  | .normal, _, W' => KeepsFrom B W W' ∧ Still s W W' ∧ I (k + 1) W'
  | .exit i, _, W' => i = id ∧ KeepsFrom B W W' ∧ Ix k W'
  | .ret, _, W' => KeepsFrom B W W' ∧ Ir k W'
  | _, _, _ => False

theorem wpIn_rangeG {Fe : Fence} {n : Nat} {P : Program} {g : Operand} {ps : Array Tmp} {assign body : Code} {Q : Exit → Act → World → Prop} {a : Act} {w : World}
    (hro : Fe.round = none) (h1 : 1 ≤ n) {gf : Nat} {rc lb : Array Value} (hg : a.eval g = .func (.func gf) rc lb) (hFg : Fe.fn gf) (eg : ∀ args w, (callFunc gf args).run P w = .ok (.enter gf args) w)
    (encs : Nat → Array Value) (hps : ∀ x, (encs x).size = ps.size) (N id : Nat) (F : Nat → Prop) (hF : ∀ b, F b → b < w.heap.size) (J0 Jb0 : Nat → World → Prop) (Je0 : World → Prop) (hseq : SeqG Fe (n - 1) P gf rc lb encs N F J0 Jb0 Je0)
    (I : Nat → World → Prop) (Ib : Nat → Nat → World → Prop) (Ix Ir : Nat → World → Prop) (Ie : World → Prop) (hJ : ∀ k A, I k A → J0 k A) (hJb : ∀ k A A', I k A → k < N → _root_.Go.Proofs.Ytllgcnljpehgeaa.Wrote F A A' → Jb0 k A' → Ib k A.heap.size A') (hJe : ∀ A A', I N A → _root_.Go.Proofs.Ytllgcnljpehgeaa.Wrote F A A' → Je0 A' → Ie A')
    (hI : OwnFrom w.heap.size I) (hIb : ∀ s, OwnFrom w.heap.size (fun k W => Ib k s W)) (hIx : OwnFrom w.heap.size Ix) (hIr : OwnFrom w.heap.size Ir) (hIe : OwnFrom w.heap.size (fun _ : Unit => Ie)) (h0 : I 0 w) (a₁ : Nat → Act)
    (hassign : ∀ (l k : Nat) (W : World) (K : Act → World → Prop), K (a₁ k) W →
      assign.wpIn (Fe.inRound l) (n - 1 - 1) P (Exit.then K (fun _ _ _ => False)) { tmps := (ps.zip (encs k)).foldl (fun t (p, v) => t.setIfInBounds p v) a.tmps, defers := [] } W)
    (hbody : ∀ (l k s : Nat) (W : World), Ib k s W → k < N → body.wpIn (Fe.inRound l) (n - 1 - 1) P (roundPost w.heap.size id I Ix Ir k s W) (a₁ k) W)
    (hdone : ∀ (D : Nat) (W : World), w.heap.size ≤ D → Ie W → W.heap[D]? = some (.deferred (some [])) → Q .normal { a with defers := { target := .collected D, args := #[] } :: a.defers } W)
    (hstop : ∀ (D k : Nat) (W : World), w.heap.size ≤ D → k < N → Ix k W → W.heap[D]? = some (.deferred (some [])) → (Code.exit id).wpIn Fe n P Q { a with defers := { target := .collected D, args := #[] } :: a.defers } W)
    (hret : ∀ (D k : Nat) (W : World), w.heap.size ≤ D → k < N → Ir k W → W.heap[D]? = some (.deferred (some [])) → (Code.ret).wpIn Fe n P Q { a with defers := { target := .collected D, args := #[] } :: a.defers } W) :
    (Code.rangeFunc g ps assign body).wpIn Fe n P Q a w := by
  refine wpIn_rangeFunc fun fn hfn => ?_
  rw [hro]
  have htell (st : LoopState) (pe : Option Code) : ∃ lp : Loop, lp = { state := st, pending := pe, fn, tmps := a.tmps, params := ps, assign, body, defers := w.heap.size } := ⟨_, rfl⟩
  obtain ⟨ready, hready⟩ := htell .ready none
  obtain ⟨busy, hbusy⟩ := htell .busy none
  obtain ⟨over, hover⟩ := htell .done (some (.exit id))
  obtain ⟨gone, hgone⟩ := htell .done (some .ret)
  obtain ⟨V, hV⟩ : ∃ V, (w.alloc (.deferred (some []))).alloc (.loop ready) = V := ⟨_, rfl⟩
  have at0 : LoopAt w.heap.size (.loop ready) V := by
    subst hV
    refine ⟨?_, (Below.heap_alloc _ _ _ (by simp)).trans (World.alloc_heap_new w _)⟩
    have := World.alloc_heap_new (w.alloc (.deferred (some []))) (.loop ready)
    rwa [World.size_alloc] at this
  have i0 : I 0 V := by subst hV; exact hI.alloc _ (hI.alloc _ h0)
  have still : ∀ {o : Obj} {A A' : World}, LoopAt w.heap.size o A → _root_.Go.Proofs.Ytllgcnljpehgeaa.Wrote F A A' → LoopAt w.heap.size o A' := by
    rintro o A A' ⟨x1, x2⟩ hw
    exact ⟨(hw.block _ (lt_of_block x1) (fun hf => by have := hF _ hf; omega)).trans x1, (hw.block _ (lt_of_block x2) (fun hf => by have := hF _ hf; omega)).trans x2⟩
  refine ⟨w.heap.size + 1, [{ target := .collected w.heap.size, args := #[] }], V, { target := .fn (.func gf) lb, args := rc ++ #[.func (.yield (w.heap.size + 1)) #[] #[]] }, V, gf, rc ++ #[.func (.yield (w.heap.size + 1)) #[] #[]] ++ lb, V, ?_, ?_, ?_, ?_, fun _ => h1, ?_⟩
  · subst hV hready; exact run_enterLoop_outer _ _ _ _ _
  · simp only [resolve, hg]; simp [go_sem]
  · intro f' hf'; simp [Target.leads] at hf'; subst hf'; exact hFg
  · simp [invoke, go_sem, eg]
  · refine (hseq (w.heap.size + 1) (fun k W => I k W ∧ LoopAt w.heap.size (.loop ready) W) (fun k s W => (Ib k s W ∧ LoopAt w.heap.size (.loop ready) W) ∧ w.heap.size + 2 ≤ s ∧ s ≤ W.heap.size) (fun k W => (Ix k W ∧ LoopAt w.heap.size (.loop over) W) ∨ (Ir k W ∧ LoopAt w.heap.size (.loop gone) W)) (fun W => Ie W ∧ LoopAt w.heap.size (.loop ready) W) V (fun _ _ h => hJ _ _ h.1)
      (fun k A A' h hk hw hb => ⟨⟨hJb k A A' h.1 hk hw hb, still h.2 hw⟩, by have := lt_of_block h.2.1; omega, hw.size⟩) (fun A A' h hw he => ⟨hJe A A' h.1 hw he, still h.2 hw⟩) ?_ ⟨i0, at0⟩).mono ?_
    · rintro k s W ⟨⟨hi, hl, hd⟩, hs2, hs3⟩ hk
      have hlt := (Array.getElem?_eq_some_iff.1 hl).1
      have hy := run_yield (P := P) (args := encs k) hl (by rw [hready]; exact hps k)
      rw [hready] at hy
      refine ⟨fn, _, assign, body, hy, roundIn_of_wpIn hfn (hassign _ k W _ ?_)⟩
      refine ⟨W.putObj (w.heap.size + 1) (.loop busy), by have := run_beginRound (P := P) hl (by rw [hready]); subst hready hbusy; exact this, ?_⟩
      have hl2 : (W.putObj (w.heap.size + 1) (.loop busy)).heap[w.heap.size + 1]? = some (.loop busy) := World.putObj_heap_same hlt
      have hd2 : (W.putObj (w.heap.size + 1) (.loop busy)).heap[w.heap.size]? = some (.deferred (some [])) := (World.putObj_heap_other (by omega)).trans hd
      refine wpIn_mono (hbody _ k s _ ((hIb s).putObj _ hi (by omega) hl rfl) hk) ?_
      rintro e a3 W3 hp
      cases e with
      | normal =>
        obtain ⟨hkeep, hst, hi3⟩ := hp
        have hl3 := hkeep.same _ _ (by omega) hl2 rfl
        have hd3 := hkeep.same _ _ (Nat.le_refl _) hd2 rfl
        have s1 : Still s W (W.putObj (w.heap.size + 1) (.loop busy)) := ⟨by simp [World.putObj], fun b h1 _ => World.putObj_heap_other (by omega)⟩
        have s2 : Still s W3 (W3.putObj (w.heap.size + 1) (.loop ready)) := ⟨by simp [World.putObj], fun b h1 _ => World.putObj_heap_other (by omega)⟩
        exact ⟨_, W3.putObj (w.heap.size + 1) (.loop ready), by have := run_endRound (P := P) none hl3; subst hready hbusy; exact this, .inl ⟨rfl, ⟨hI.putObj _ hi3 (by omega) hl3 rfl, World.putObj_heap_same (Array.getElem?_eq_some_iff.1 hl3).1, (World.putObj_heap_other (by omega)).trans hd3⟩, (s1.trans hst).trans s2⟩⟩
      | exit i =>
        obtain ⟨rfl, hkeep, hi3⟩ := hp
        have hl3 := hkeep.same _ _ (by omega) hl2 rfl
        have hd3 := hkeep.same _ _ (Nat.le_refl _) hd2 rfl
        exact ⟨_, W3.putObj (w.heap.size + 1) (.loop over), by have := run_endRound (P := P) (some (.exit i)) hl3; subst hover hbusy; exact this, .inr ⟨rfl, .inl ⟨hIx.putObj _ hi3 (by omega) hl3 rfl, World.putObj_heap_same (Array.getElem?_eq_some_iff.1 hl3).1, (World.putObj_heap_other (by omega)).trans hd3⟩⟩⟩
      | ret =>
        obtain ⟨hkeep, hi3⟩ := hp
        have hl3 := hkeep.same _ _ (by omega) hl2 rfl
        have hd3 := hkeep.same _ _ (Nat.le_refl _) hd2 rfl
        exact ⟨_, W3.putObj (w.heap.size + 1) (.loop gone), by have := run_endRound (P := P) (some .ret) hl3; subst hgone hbusy; exact this, .inr ⟨rfl, .inr ⟨hIr.putObj _ hi3 (by omega) hl3 rfl, World.putObj_heap_same (Array.getElem?_eq_some_iff.1 hl3).1, (World.putObj_heap_other (by omega)).trans hd3⟩⟩⟩
      | goto t => exact hp.elim
      | panic ch => exact hp.elim
      | outgrown => exact hp.elim
    · rintro e W2 ⟨⟨v, rfl⟩, h⟩
      rcases h with ⟨hi, hl, hd⟩ | ⟨k, hk, ⟨hi, hl, hd⟩ | ⟨hi, hl, hd⟩⟩
      · exact ⟨none, _, by have := run_endLoop (P := P) hl (by rw [hready]; simp); rw [hready] at this; exact this, hdone w.heap.size _ (Nat.le_refl _) (OwnFrom.putObj hIe (s := ()) _ hi (by omega) hl rfl) ((World.putObj_heap_other (by omega)).trans hd)⟩
      · exact ⟨some (.exit id), _, by have := run_endLoop (P := P) hl (by rw [hover]; simp); rw [hover] at this; exact this, hstop w.heap.size k _ (Nat.le_refl _) hk (hIx.putObj _ hi (by omega) hl rfl) ((World.putObj_heap_other (by omega)).trans hd)⟩
      · exact ⟨some .ret, _, by have := run_endLoop (P := P) hl (by rw [hgone]; simp); rw [hgone] at this; exact this, hret w.heap.size k _ (Nat.le_refl _) hk (hIr.putObj _ hi (by omega) hl rfl) ((World.putObj_heap_other (by omega)).trans hd)⟩

/-- The same, where a round's variable stands in a block of its own. -/
theorem wpIn_rangeB {Fe : Fence} {n : Nat} {P : Program} {g : Operand} {ps : Array Tmp} {assign body : Code} {Q : Exit → Act → World → Prop} {a : Act} {w : World}
    (hro : Fe.round = none) (h1 : 1 ≤ n) {gf : Nat} {rc lb : Array Value} (hg : a.eval g = .func (.func gf) rc lb) (hFg : Fe.fn gf) (eg : ∀ args w, (callFunc gf args).run P w = .ok (.enter gf args) w)
    (encs : Nat → Array Value) (hps : ∀ x, (encs x).size = ps.size) (N id : Nat) (F : Nat → Prop) (hF : ∀ b, F b → b < w.heap.size) (J0 Jb0 : Nat → World → Prop) (Je0 : World → Prop) (hseq : SeqG Fe (n - 1) P gf rc lb encs N F J0 Jb0 Je0)
    (I : Nat → World → Prop) (Ib : Nat → Nat → World → Prop) (Ix Ir : Nat → World → Prop) (Ie : World → Prop) (hJ : ∀ k A, I k A → J0 k A) (hJb : ∀ k A A', I k A → k < N → _root_.Go.Proofs.Ytllgcnljpehgeaa.Wrote F A A' → Jb0 k A' → Ib k A.heap.size A') (hJe : ∀ A A', I N A → _root_.Go.Proofs.Ytllgcnljpehgeaa.Wrote F A A' → Je0 A' → Ie A')
    (hI : OwnFrom w.heap.size I) (hIb : ∀ s, OwnFrom w.heap.size (fun k W => Ib k s W)) (hIx : OwnFrom w.heap.size Ix) (hIr : OwnFrom w.heap.size Ir) (hIe : OwnFrom w.heap.size (fun _ : Unit => Ie)) (h0 : I 0 w) (o₁ : Nat → Obj) (a₁ : Nat → Nat → Act)
    (hassign : ∀ (l k : Nat) (W : World) (K : Act → World → Prop), K (a₁ k W.heap.size) (W.alloc (o₁ k)) →
      assign.wpIn (Fe.inRound l) (n - 1 - 1) P (Exit.then K (fun _ _ _ => False)) { tmps := (ps.zip (encs k)).foldl (fun t (p, v) => t.setIfInBounds p v) a.tmps, defers := [] } W)
    (hbody : ∀ (l k s b : Nat) (W : World), Ib k s W → k < N → s ≤ b → W.heap[b]? = some (o₁ k) → body.wpIn (Fe.inRound l) (n - 1 - 1) P (roundPost w.heap.size id I Ix Ir k s W) (a₁ k b) W)
    (hdone : ∀ (D : Nat) (W : World), w.heap.size ≤ D → Ie W → W.heap[D]? = some (.deferred (some [])) → Q .normal { a with defers := { target := .collected D, args := #[] } :: a.defers } W)
    (hstop : ∀ (D k : Nat) (W : World), w.heap.size ≤ D → k < N → Ix k W → W.heap[D]? = some (.deferred (some [])) → (Code.exit id).wpIn Fe n P Q { a with defers := { target := .collected D, args := #[] } :: a.defers } W)
    (hret : ∀ (D k : Nat) (W : World), w.heap.size ≤ D → k < N → Ir k W → W.heap[D]? = some (.deferred (some [])) → (Code.ret).wpIn Fe n P Q { a with defers := { target := .collected D, args := #[] } :: a.defers } W) :
    (Code.rangeFunc g ps assign body).wpIn Fe n P Q a w := by
  refine wpIn_rangeFunc fun fn hfn => ?_
  rw [hro]
  have htell (st : LoopState) (pe : Option Code) : ∃ lp : Loop, lp = { state := st, pending := pe, fn, tmps := a.tmps, params := ps, assign, body, defers := w.heap.size } := ⟨_, rfl⟩
  obtain ⟨ready, hready⟩ := htell .ready none
  obtain ⟨busy, hbusy⟩ := htell .busy none
  obtain ⟨over, hover⟩ := htell .done (some (.exit id))
  obtain ⟨gone, hgone⟩ := htell .done (some .ret)
  obtain ⟨V0, hV⟩ : ∃ V, (w.alloc (.deferred (some []))).alloc (.loop ready) = V := ⟨_, rfl⟩
  have at0 : LoopAt w.heap.size (.loop ready) V0 := by
    subst hV
    refine ⟨?_, (Below.heap_alloc _ _ _ (by simp)).trans (World.alloc_heap_new w _)⟩
    have := World.alloc_heap_new (w.alloc (.deferred (some []))) (.loop ready)
    rwa [World.size_alloc] at this
  have i0 : I 0 V0 := by subst hV; exact hI.alloc _ (hI.alloc _ h0)
  have still : ∀ {o : Obj} {A A' : World}, LoopAt w.heap.size o A → _root_.Go.Proofs.Ytllgcnljpehgeaa.Wrote F A A' → LoopAt w.heap.size o A' := by
    rintro o A A' ⟨x1, x2⟩ hw
    exact ⟨(hw.block _ (lt_of_block x1) (fun hf => by have := hF _ hf; omega)).trans x1, (hw.block _ (lt_of_block x2) (fun hf => by have := hF _ hf; omega)).trans x2⟩
  refine ⟨w.heap.size + 1, [{ target := .collected w.heap.size, args := #[] }], V0, { target := .fn (.func gf) lb, args := rc ++ #[.func (.yield (w.heap.size + 1)) #[] #[]] }, V0, gf, rc ++ #[.func (.yield (w.heap.size + 1)) #[] #[]] ++ lb, V0, ?_, ?_, ?_, ?_, fun _ => h1, ?_⟩
  · subst hV hready; exact run_enterLoop_outer _ _ _ _ _
  · simp only [resolve, hg]; simp [go_sem]
  · intro f' hf'; simp [Target.leads] at hf'; subst hf'; exact hFg
  · simp [invoke, go_sem, eg]
  · refine (hseq (w.heap.size + 1) (fun k W => I k W ∧ LoopAt w.heap.size (.loop ready) W) (fun k s W => (Ib k s W ∧ LoopAt w.heap.size (.loop ready) W) ∧ w.heap.size + 2 ≤ s ∧ s ≤ W.heap.size) (fun k W => (Ix k W ∧ LoopAt w.heap.size (.loop over) W) ∨ (Ir k W ∧ LoopAt w.heap.size (.loop gone) W)) (fun W => Ie W ∧ LoopAt w.heap.size (.loop ready) W) V0 (fun _ _ h => hJ _ _ h.1)
      (fun k A A' h hk hw hb => ⟨⟨hJb k A A' h.1 hk hw hb, still h.2 hw⟩, by have := lt_of_block h.2.1; omega, hw.size⟩) (fun A A' h hw he => ⟨hJe A A' h.1 hw he, still h.2 hw⟩) ?_ ⟨i0, at0⟩).mono ?_
    · rintro k s W ⟨⟨hi, hl, hd⟩, hs2, hs3⟩ hk
      have hlt := (Array.getElem?_eq_some_iff.1 hl).1
      have hy := run_yield (P := P) (args := encs k) hl (by rw [hready]; exact hps k)
      rw [hready] at hy
      refine ⟨fn, _, assign, body, hy, roundIn_of_wpIn hfn (hassign _ k W _ ?_)⟩
      have sV : Still s W (W.alloc (o₁ k)) := Still.of ((Below.refl _ _).alloc (Nat.le_refl _) _)
      have hbx : (W.alloc (o₁ k)).heap[W.heap.size]? = some (o₁ k) := World.alloc_heap_new W _
      have hiV := OwnFrom.alloc (hIb s) (o₁ k) hi
      have hlV : (W.alloc (o₁ k)).heap[w.heap.size + 1]? = some (.loop ready) := (Below.heap_alloc _ _ _ hlt).trans hl
      have hdV : (W.alloc (o₁ k)).heap[w.heap.size]? = some (.deferred (some [])) := (Below.heap_alloc _ _ _ (by omega)).trans hd
      have hltV := (Array.getElem?_eq_some_iff.1 hlV).1
      obtain ⟨b, hb⟩ : ∃ b, W.heap.size = b := ⟨_, rfl⟩
      rw [hb] at hbx ⊢
      have hsb : s ≤ b := by omega
      have hbn : b ≠ w.heap.size + 1 := by omega
      generalize W.alloc (o₁ k) = V at *
      refine ⟨V.putObj (w.heap.size + 1) (.loop busy), by have := run_beginRound (P := P) hlV (by rw [hready]); subst hready hbusy; exact this, ?_⟩
      have hl2 : (V.putObj (w.heap.size + 1) (.loop busy)).heap[w.heap.size + 1]? = some (.loop busy) := World.putObj_heap_same hltV
      have hd2 : (V.putObj (w.heap.size + 1) (.loop busy)).heap[w.heap.size]? = some (.deferred (some [])) := (World.putObj_heap_other (by omega)).trans hdV
      refine wpIn_mono (hbody _ k s b _ ((hIb s).putObj _ hiV (by omega) hlV rfl) hk hsb ((World.putObj_heap_other hbn).trans hbx)) ?_
      rintro e a3 W3 hp
      cases e with
      | normal =>
        obtain ⟨hkeep, hst, hi3⟩ := hp
        have hl3 := hkeep.same _ _ (by omega) hl2 rfl
        have hd3 := hkeep.same _ _ (Nat.le_refl _) hd2 rfl
        have s1 : Still s V (V.putObj (w.heap.size + 1) (.loop busy)) := ⟨by simp [World.putObj], fun b h1 _ => World.putObj_heap_other (by omega)⟩
        have s2 : Still s W3 (W3.putObj (w.heap.size + 1) (.loop ready)) := ⟨by simp [World.putObj], fun b h1 _ => World.putObj_heap_other (by omega)⟩
        exact ⟨_, W3.putObj (w.heap.size + 1) (.loop ready), by have := run_endRound (P := P) none hl3; subst hready hbusy; exact this, .inl ⟨rfl, ⟨hI.putObj _ hi3 (by omega) hl3 rfl, World.putObj_heap_same (Array.getElem?_eq_some_iff.1 hl3).1, (World.putObj_heap_other (by omega)).trans hd3⟩, ((sV.trans s1).trans hst).trans s2⟩⟩
      | exit i =>
        obtain ⟨rfl, hkeep, hi3⟩ := hp
        have hl3 := hkeep.same _ _ (by omega) hl2 rfl
        have hd3 := hkeep.same _ _ (Nat.le_refl _) hd2 rfl
        exact ⟨_, W3.putObj (w.heap.size + 1) (.loop over), by have := run_endRound (P := P) (some (.exit i)) hl3; subst hover hbusy; exact this, .inr ⟨rfl, .inl ⟨hIx.putObj _ hi3 (by omega) hl3 rfl, World.putObj_heap_same (Array.getElem?_eq_some_iff.1 hl3).1, (World.putObj_heap_other (by omega)).trans hd3⟩⟩⟩
      | ret =>
        obtain ⟨hkeep, hi3⟩ := hp
        have hl3 := hkeep.same _ _ (by omega) hl2 rfl
        have hd3 := hkeep.same _ _ (Nat.le_refl _) hd2 rfl
        exact ⟨_, W3.putObj (w.heap.size + 1) (.loop gone), by have := run_endRound (P := P) (some .ret) hl3; subst hgone hbusy; exact this, .inr ⟨rfl, .inr ⟨hIr.putObj _ hi3 (by omega) hl3 rfl, World.putObj_heap_same (Array.getElem?_eq_some_iff.1 hl3).1, (World.putObj_heap_other (by omega)).trans hd3⟩⟩⟩
      | goto t => exact hp.elim
      | panic ch => exact hp.elim
      | outgrown => exact hp.elim
    · rintro e W2 ⟨⟨v, rfl⟩, h⟩
      rcases h with ⟨hi, hl, hd⟩ | ⟨k, hk, ⟨hi, hl, hd⟩ | ⟨hi, hl, hd⟩⟩
      · exact ⟨none, _, by have := run_endLoop (P := P) hl (by rw [hready]; simp); rw [hready] at this; exact this, hdone w.heap.size _ (Nat.le_refl _) (OwnFrom.putObj hIe (s := ()) _ hi (by omega) hl rfl) ((World.putObj_heap_other (by omega)).trans hd)⟩
      · exact ⟨some (.exit id), _, by have := run_endLoop (P := P) hl (by rw [hover]; simp); rw [hover] at this; exact this, hstop w.heap.size k _ (Nat.le_refl _) hk (hIx.putObj _ hi (by omega) hl rfl) ((World.putObj_heap_other (by omega)).trans hd)⟩
      · exact ⟨some .ret, _, by have := run_endLoop (P := P) hl (by rw [hgone]; simp); rw [hgone] at this; exact this, hret w.heap.size k _ (Nat.le_refl _) hk (hIr.putObj _ hi (by omega) hl rfl) ((World.putObj_heap_other (by omega)).trans hd)⟩

end Go.Proofs.Ytllgcnljpehgeaa.M2
namespace Go.Proofs.Ytllgcnljpehgeaa.M2
open Go.RowKit

theorem getD_left {α : Type} {xs ys : List α} {k : Nat} {d : α} (h : k < xs.length) : (xs ++ ys).getD k d = xs.getD k d := by
  simp only [List.getD_eq_getElem?_getD, List.getElem?_append_left h]
theorem getD_last {α : Type} {xs : List α} {x d : α} : (xs ++ [x]).getD xs.length d = x := by
  simp only [List.getD_eq_getElem?_getD, List.getElem?_append_right (Nat.le_refl _), Nat.sub_self]; rfl

/-- The number that leads on behind the first k records. -/
def vAt (zs : List Int) (ps : List Nat) (k : Nat) : Int := if k = 0 then zs.getD 1 0 else zs.getD (ps.getD (k - 1) 0 + 3) 0

/-- The records that can be come to, in order; whether it goes wrong behind them. -/
structure Path (zs : List Int) (ps : List Nat) (lost : Bool) : Prop where
  len : ps.length ≤ mn zs.length
  step : ∀ k, k < ps.length → vAt zs ps k = ((ps.getD k 0 : Nat) : Int)
  isr : ∀ k, k < ps.length → ∃ j, j < mn zs.length ∧ ps.getD k 0 = 3 + 5 * j
  new : ∀ k, k < ps.length → ps.getD k 0 ∉ ps.take k
  fin : lost = false → vAt zs ps ps.length = 0
  big : vAt zs ps ps.length ≤ 9223372036854775807
  bad : lost = true → vAt zs ps ps.length ≠ 0 ∧ ((∀ j : Nat, j < mn zs.length → vAt zs ps ps.length ≠ 3 + 5 * (j : Int)) ∨ ∃ j, j < mn zs.length ∧ 3 + 5 * j ∈ ps ∧ vAt zs ps ps.length = 3 + 5 * (j : Int))

theorem vAt_left (zs : List Int) (ps bs : List Nat) (k : Nat) (h : k ≤ ps.length) : vAt zs (ps ++ bs) k = vAt zs ps k := by
  unfold vAt
  by_cases h0 : k = 0
  · rw [if_pos h0, if_pos h0]
  · rw [if_neg h0, if_neg h0, getD_left (by omega)]

theorem path_from (zs : List Int) (hM : ∀ ps k, vAt zs ps k ≤ 9223372036854775807) : ∀ (f : Nat) (rest ps : List Nat), rest.length ≤ f → ps.length + rest.length ≤ mn zs.length → (∀ j, j < mn zs.length → 3 + 5 * j ∉ ps → j ∈ rest) →
    (∀ k, k < ps.length → vAt zs ps k = ((ps.getD k 0 : Nat) : Int)) → (∀ k, k < ps.length → ∃ j, j < mn zs.length ∧ ps.getD k 0 = 3 + 5 * j) → (∀ k, k < ps.length → ps.getD k 0 ∉ ps.take k) → ∃ bs lost, Path zs bs lost := by
  intro f
  induction f with
  | zero =>
    intro rest ps h0 h1 h2 h3 h4 h5
    by_cases hv : vAt zs ps ps.length = 0
    · exact ⟨ps, false, by omega, h3, h4, h5, (fun _ => hv), hM _ _, fun h => by cases h⟩
    · refine ⟨ps, true, by omega, h3, h4, h5, (fun h => by cases h), hM _ _, fun _ => ⟨hv, ?_⟩⟩
      rcases rec_or zs.length (vAt zs ps ps.length) with ⟨j, hj, e⟩ | hno
      · refine .inr ⟨j, hj, ?_, e⟩
        by_cases hm : 3 + 5 * j ∈ ps
        · exact hm
        · have := h2 j hj hm
          have := List.eq_nil_of_length_eq_zero (show rest.length = 0 by omega)
          subst this
          simp_all
      · exact .inl hno
  | succ f ih =>
    intro rest ps h0 h1 h2 h3 h4 h5
    by_cases hv : vAt zs ps ps.length = 0
    · exact ⟨ps, false, by omega, h3, h4, h5, (fun _ => hv), hM _ _, fun h => by cases h⟩
    rcases rec_or zs.length (vAt zs ps ps.length) with ⟨j, hj, e⟩ | hno
    · by_cases hm : 3 + 5 * j ∈ ps
      · exact ⟨ps, true, by omega, h3, h4, h5, (fun h => by cases h), hM _ _, fun _ => ⟨hv, .inr ⟨j, hj, hm, e⟩⟩⟩
      · have hr := h2 j hj hm
        have hl := List.length_erase_of_mem hr
        have hp : 0 < rest.length := List.length_pos_of_mem hr
        refine ih (rest.erase j) (ps ++ [3 + 5 * j]) (by omega) (by simp; omega) ?_ ?_ ?_ ?_
        · intro i hi hn
          have hne : i ≠ j := fun e => hn (by subst e; simp)
          exact (List.mem_erase_of_ne hne).2 (h2 i hi (fun hm => hn (by simp [hm])))
        · intro k hk
          rw [vAt_left _ _ _ _ (by simp at hk; omega)]
          by_cases hk2 : k < ps.length
          · rw [getD_left hk2]; exact h3 k hk2
          · obtain rfl : k = ps.length := by simp at hk; omega
            rw [e, getD_last]
            omega
        · intro k hk
          by_cases hk2 : k < ps.length
          · rw [getD_left hk2]; exact h4 k hk2
          · obtain rfl : k = ps.length := by simp at hk; omega
            refine ⟨j, hj, ?_⟩
            exact getD_last
        · intro k hk
          by_cases hk2 : k < ps.length
          · rw [getD_left hk2, List.take_append_of_le_length (by omega)]; exact h5 k hk2
          · obtain rfl : k = ps.length := by simp at hk; omega
            rw [getD_last, List.take_append_of_le_length (Nat.le_refl _), List.take_length]
            simpa using hm
    · exact ⟨ps, true, by omega, h3, h4, h5, (fun h => by cases h), hM _ _, fun _ => ⟨hv, .inl hno⟩⟩

theorem path_any (zs : List Int) (h : ∀ z ∈ zs, z ≤ 9223372036854775807) : ∃ ps lost, Path zs ps lost :=
  path_from zs (fun ps k => by
    have hg : ∀ i, zs.getD i 0 ≤ 9223372036854775807 := by
      intro i
      by_cases hi : i < zs.length
      · exact h _ (by simp [List.getD, hi])
      · simp [List.getD, Nat.le_of_not_lt hi]
    unfold vAt
    by_cases h0 : k = 0
    · rw [if_pos h0]; exact hg _
    · rw [if_neg h0]; exact hg _) (mn zs.length) (List.range (mn zs.length)) [] (by simp) (by simp) (fun j hj _ => by simpa using hj) (fun k hk => by simp at hk) (fun k hk => by simp at hk) (fun k hk => by simp at hk)

/-- A record as a value. -/
def recV (zs : List Int) (a : Nat) : Value := .agg #[.int .i64 (zs.getD a 0), .int .i64 (zs.getD (a + 1) 0), .int .i64 (zs.getD (a + 2) 0), .int .i64 (zs.getD (a + 3) 0), .int .i64 (zs.getD (a + 4) 0)]
/-- What is told of one: its address and itself. -/
def encA (zs : List Int) (ps : List Nat) (k : Nat) : Array Value := #[.int .i64 ((ps.getD k 0 : Nat) : Int), recV zs (ps.getD k 0)]
def encR (zs : List Int) (k : Nat) : Array Value := #[.int .i64 (3 + 5 * (k : Int)), recV zs (3 + 5 * k)]

/-- The map of those that were met. -/
def metL : List Nat → List MapEntry → List MapEntry
  | [], es => es
  | a :: ps, es => metL ps (es ++ [{ key := .int .i64 (a : Int), val := .bool true, born := es.length }])
def metE (ps : List Nat) : Array MapEntry := (metL ps []).toArray

theorem metL_append (ps : List Nat) (a : Nat) : ∀ es, metL (ps ++ [a]) es = metL ps es ++ [{ key := .int .i64 (a : Int), val := .bool true, born := (metL ps es).length }] := by
  induction ps with
  | nil => intro es; rfl
  | cons b ps ih => intro es; exact ih _
theorem metE_push (ps : List Nat) (a : Nat) : metE (ps ++ [a]) = (metE ps).push { key := .int .i64 (a : Int), val := .bool true, born := (metE ps).size } := by
  unfold metE; rw [metL_append]; simp
theorem metL_keys (ps : List Nat) : ∀ es, (metL ps es).map (·.key) = es.map (·.key) ++ ps.map (fun a : Nat => Value.int .i64 (a : Int)) := by
  induction ps with
  | nil => intro es; simp [metL]
  | cons b ps ih => intro es; rw [metL, ih]; simp
theorem metL_vals (ps : List Nat) : ∀ es, (∀ x ∈ es, x.val = .bool true) → ∀ x ∈ metL ps es, x.val = .bool true := by
  induction ps with
  | nil => intro es h; exact h
  | cons b ps ih =>
    intro es h
    refine ih _ ?_
    intro x hx
    rcases List.mem_append.1 hx with hx | hx
    · exact h x hx
    · simp at hx; subst hx; rfl
theorem metE_size (ps : List Nat) : (metE ps).size = ps.length := by
  have := congrArg List.length (metL_keys ps [])
  simpa [metE] using this
theorem metE_keys (ps : List Nat) : ∀ x ∈ (metE ps).toList, ∃ a ∈ ps, x.key = .int .i64 (a : Int) := by
  intro x hx
  have hm : x.key ∈ (metL ps []).map (·.key) := List.mem_map_of_mem (f := fun e : MapEntry => e.key) (by simpa [metE] using hx)
  rw [metL_keys] at hm
  simp only [List.map_nil, List.nil_append, List.mem_map] at hm
  obtain ⟨a, ha, e⟩ := hm
  exact ⟨a, ha, e.symm⟩
theorem metE_isKey (ps : List Nat) : ∀ x ∈ (metE ps).toList, MapKept.IsKey (.int .i64) x.key := by
  intro x hx
  obtain ⟨a, _, e⟩ := metE_keys ps x hx
  rw [e]; simp [MapKept.IsKey]
theorem met_none {ps : List Nat} {v : Int} (h : ∀ a ∈ ps, v ≠ (a : Int)) : Instr.findNow (.int .i64) (.int .i64 v) (metE ps).toList 0 = some none := by
  rcases MapKept.findNow_spec (d := .int .i64) (k := .int .i64 v) (by simp [MapKept.IsKey]) (metE ps).toList 0 (metE_isKey ps) with ⟨h1, _⟩ | ⟨j, e, _, h2, h3⟩
  · exact h1
  · obtain ⟨a, ha, e2⟩ := metE_keys ps e (List.mem_of_getElem? h2)
    rw [e2] at h3
    cases h3
    exact absurd rfl (h a ha)
theorem met_some {ps : List Nat} {v : Int} (h : ∃ a ∈ ps, v = (a : Int)) : ∃ i, Instr.findNow (.int .i64) (.int .i64 v) (metE ps).toList 0 = some (some (i, .bool true)) := by
  obtain ⟨a, ha, rfl⟩ := h
  rcases MapKept.findNow_spec (d := .int .i64) (k := .int .i64 (a : Int)) (by simp [MapKept.IsKey]) (metE ps).toList 0 (metE_isKey ps) with ⟨_, h2⟩ | ⟨j, e, h1, h2, h3⟩
  · exfalso
    have hm : Value.int .i64 (a : Int) ∈ (metL ps []).map (·.key) := by rw [metL_keys]; simpa using ⟨a, ha, rfl⟩
    obtain ⟨x, hx, e⟩ := List.mem_map.1 hm
    exact h2 x (by simpa [metE] using hx) e
  · rw [metL_vals ps [] (by simp) e (by have := List.mem_of_getElem? h2; simpa [metE] using this)] at h1
    exact ⟨_, h1⟩

/-- Block r is a map with these entries. -/
def MapIs (w : World) (r : Nat) (es : Array MapEntry) : Prop := w.heap[r]? = some (.map es es.size)

theorem MapIs.lt {w : World} {r : Nat} {es : Array MapEntry} (h : MapIs w r es) : r < w.heap.size := lt_of_block h
theorem MapIs.keep {w w' : World} {r : Nat} {es : Array MapEntry} (h : MapIs w r es) (hb : Below w.heap.size w w') : MapIs w' r es := (hb.block r h.lt).trans h
theorem MapIs.new (w : World) : MapIs (w.alloc (.map #[] 0)) w.heap.size #[] := heap_alloc_new w _

theorem run_put {P : Program} (w : World) (t kt et : TypeId) (r : Nat) (es : Array MapEntry) (k : Int) (v : Value) (hm : P.underlying t = some (.map kt et)) (hk : P.underlying kt = some (.int .i64)) (hb : MapIs w r es) (hf : Instr.findNow (.int .i64) (.int .i64 k) es.toList 0 = some none) :
    (Instr.mapUpdate t (.map (some r)) (.int .i64 k) v).run P w = .ok () { w with heap := w.heap.setIfInBounds r (.map (es.push { key := .int .i64 k, val := v, born := es.size }) (es.size + 1)) } := by
  have hc : (Instr.checkKey false 10000 kt (.int .i64 k)).run P w = .ok () w := MapKept.run_checkKey (k := .int .i64 k) hk (by simp [MapKept.IsKey]) false 9999
  simp [Instr.mapUpdate, run_underlying hm, MapKept.run_getObj_map hb, hc, MapKept.run_findKey hk hf, MapKept.run_setObj_map _ hb, Result.andThen]

/-- A look-up, at a key that is there. -/
theorem run_lookIn {P : Program} (w : World) (t kt et : TypeId) (r : Nat) (es : Array MapEntry) (k : Int) (ok : Bool) (i : Nat) (v : Value) (hm : P.underlying t = some (.map kt et)) (hk : P.underlying kt = some (.int .i64)) (hb : MapIs w r es) (hf : Instr.findNow (.int .i64) (.int .i64 k) es.toList 0 = some (some (i, v))) :
    (Instr.lookup t (.map (some r)) (.int .i64 k) ok).run P w = .ok (if ok then .tuple #[v, .bool true] else v) w := by
  have hc : ∀ e, (Instr.checkKey e 10000 kt (.int .i64 k)).run P w = .ok () w := fun e => MapKept.run_checkKey (k := .int .i64 k) hk (by simp [MapKept.IsKey]) e 9999
  simp [Instr.lookup, run_underlying hm, MapKept.run_getObj_map hb, hc, MapKept.run_findKey hk hf, Result.andThen]
/-- And at one that is not. -/
theorem run_lookOut {P : Program} (w : World) (t kt et : TypeId) (r : Nat) (es : Array MapEntry) (k : Int) (ok : Bool) (z : Value) (hm : P.underlying t = some (.map kt et)) (hk : P.underlying kt = some (.int .i64)) (hb : MapIs w r es) (hz : (zeroValue et).run P w = .ok z w) (hf : Instr.findNow (.int .i64) (.int .i64 k) es.toList 0 = some none) :
    (Instr.lookup t (.map (some r)) (.int .i64 k) ok).run P w = .ok (if ok then .tuple #[z, .bool false] else z) w := by
  have hc : ∀ e, (Instr.checkKey e 10000 kt (.int .i64 k)).run P w = .ok () w := fun e => MapKept.run_checkKey (k := .int .i64 k) hk (by simp [MapKept.IsKey]) e 9999
  simp [Instr.lookup, run_underlying hm, MapKept.run_getObj_map hb, hc, MapKept.run_findKey hk hf, hz, Result.andThen]

theorem MapIs.wrote {w : World} {r : Nat} {es es' : Array MapEntry} {c : Nat} (h : MapIs w r es) (hc : c = es'.size) : ∃ w' : World, w' = { w with heap := w.heap.setIfInBounds r (.map es' c) } ∧ MapIs w' r es' ∧ _root_.Go.Proofs.Ytllgcnljpehgeaa.Wrote (fun q => q = r) w w' := by
  refine ⟨_, rfl, ?_, ⟨rfl, rfl, rfl, by simp, ?_⟩⟩
  · have hl := h.lt
    unfold MapIs
    subst hc
    simp [hl]
  · intro q hq hne
    simp [Array.getElem?_setIfInBounds_ne (Ne.symm hne)]

theorem put_run {P : Program} (w : World) (t kt et : TypeId) (r : Nat) (es : Array MapEntry) (k : Int) (v : Value) (hm : P.underlying t = some (.map kt et)) (hk : P.underlying kt = some (.int .i64)) (hb : MapIs w r es) (hf : Instr.findNow (.int .i64) (.int .i64 k) es.toList 0 = some none) :
    ∃ w', (Instr.mapUpdate t (.map (some r)) (.int .i64 k) v).run P w = .ok () w' ∧ MapIs w' r (es.push { key := .int .i64 k, val := v, born := es.size }) ∧ _root_.Go.Proofs.Ytllgcnljpehgeaa.Wrote (fun q => q = r) w w' := by
  obtain ⟨w', e, h1, h2⟩ := hb.wrote (es' := es.push { key := .int .i64 k, val := v, born := es.size }) (c := es.size + 1) (by simp)
  exact ⟨w', by rw [e]; exact run_put w t kt et r es k v hm hk hb hf, h1, h2⟩

theorem zeroBool (w : World) : (zeroValue 4).run Try.prog w = .ok (.bool false) w := by
  kernel_rfl

end Go.Proofs.Ytllgcnljpehgeaa.M2
namespace Go.Proofs.Ytllgcnljpehgeaa.M2
open Go.RowKit

section
variable {w : World} {B p : Nat} {size : Int} {zs : List Int} {st : Int}

set_option maxRecDepth 100000 in
theorem cellAny (h : Mem1 w B p size zs st) (a : Nat) (ha : a ≤ 3) : Calls Try.prog 44 #[.pointer (some ⟨p, 0, none⟩), .int .i64 a] w fun e w' => e = .returned (.int .i64 (zs.getD a 0)) ∧ Below w.heap.size w w' := by
  have C := cells1 h
  have hl := h.most
  clear h
  by_cases hlt : a < zs.length
  · have h0 : (a : Int) < zs.length := by omega
    obtain ⟨z, hz⟩ : ∃ z, zs.getD a 0 = z := ⟨_, rfl⟩
    rw [hz]
    have HZ := Lib.hid hz
    have HL := Lib.hid hlt
    clear hz hlt
    go_enter Try.func44, Try.ntmps44
    go_wp2_with fail
    refine C.mono ?_
    clear C
    rintro e w2 ⟨rfl, o2, b2⟩
    have c0 := (own_cell o2 (a := (a : Int)) (by omega) h0).1
    rw [Int.toNat_natCast, HZ.out] at c0
    have HB := Lib.hid b2
    clear o2 b2 HZ HL
    generalize zs.length = n at *
    go_wp2
    go_ret
    exact ⟨rfl, HB.out⟩
  · have h0 : (zs.length : Int) ≤ a := by omega
    have hz : zs.getD a 0 = 0 := by simp [List.getD, Nat.le_of_not_lt hlt]
    rw [hz]
    clear hz hlt
    go_enter Try.func44, Try.ntmps44
    go_wp2_with fail
    refine C.mono ?_
    clear C
    rintro e w2 ⟨rfl, _, b2⟩
    have HB := Lib.hid b2
    clear b2
    generalize zs.length = n at *
    go_wp2
    go_ret
    exact ⟨rfl, HB.out⟩

set_option maxRecDepth 100000 in
set_option maxHeartbeats 1600000 in
/-- Whatever See tells of an address. -/
theorem seeBy (v : Int) (z0 z1 z2 z3 z4 : Int) (b : Bool)
    (C : ∀ W, Below w.heap.size w W → Calls Try.prog 62 #[.pointer (some ⟨p, 0, none⟩), .int .i64 v] W fun e w' => e = .returned (.tuple #[.agg #[.int .i64 z0, .int .i64 z1, .int .i64 z2, .int .i64 z3, .int .i64 z4], .bool b]) ∧ Below W.heap.size W w') :
    Calls Try.prog 59 #[.pointer (some ⟨p, 0, none⟩), .int .i64 v] w fun e w' => e = .returned (.tuple #[.int .i64 v, .agg #[.int .i64 z0, .int .i64 z1, .int .i64 z2, .int .i64 z3, .int .i64 z4], .bool b]) ∧ Below w.heap.size w w' := by
  obtain ⟨W, hW⟩ : ∃ W, w.alloc (.cells #[.int .i64 0, .int .i64 0, .int .i64 0, .int .i64 0, .int .i64 0] 76) = W := ⟨_, rfl⟩
  have HX := Lib.hid (show B5 W w.heap.size 76 0 0 0 0 0 by subst hW; exact B5.new _ _ _ _ _ _ _)
  have HB := Lib.hid (show Below w.heap.size w W by subst hW; exact (Below.refl _ _).alloc (Nat.le_refl _) _)
  have C1 := C W HB.out
  have HW := Lib.hid hW
  clear hW C
  go_enter Try.func59, Try.ntmps59
  go_wp2_with fail
  rw [HW.out]
  clear HW
  refine C1.mono ?_
  clear C1
  rintro e W2 ⟨rfl, b2⟩
  have HY := Lib.hid (HX.out.keep b2)
  have HB2 := Lib.hid (HB.out.trans (b2.mono HB.out.size))
  clear b2 HX HB
  go_upto_region 5 with (fail)
  generalize hV : W2.alloc (.cells #[.int .i64 z0, .int .i64 z1, .int .i64 z2, .int .i64 z3, .int .i64 z4] 76) = V
  have HV := Lib.hid (show B5 V W2.heap.size 76 z0 z1 z2 z3 z4 by subst hV; exact B5.new W2 _ _ _ _ _ _)
  have BV := Lib.hid (show Below W2.heap.size W2 V by subst hV; exact (Below.refl _ _).alloc (Nat.le_refl _) _)
  have HZ := Lib.hid (HY.out.keep BV.out)
  have HB3 := Lib.hid (HB2.out.trans (BV.out.mono HB2.out.size))
  have hne := HY.out.lt
  clear hV BV HB2 HY
  have a0 := HV.out.c0
  have a1 := HV.out.c1
  have a2 := HV.out.c2
  have a3 := HV.out.c3
  have a4 := HV.out.c4
  have e0 := HZ.out.c0
  have e1 := HZ.out.c1
  have e2 := HZ.out.c2
  have e3 := HZ.out.c3
  have e4 := HZ.out.c4
  have ef := HZ.out.f
  have hN := HZ.out.lt
  have s0 := Lib.hid ((HZ.out.set0 z0).c0)
  have s1 := Lib.hid (((HZ.out.set0 z0).set1 z1).c1)
  have s2 := Lib.hid ((((HZ.out.set0 z0).set1 z1).set2 z2).c2)
  have s3 := Lib.hid (((((HZ.out.set0 z0).set1 z1).set2 z2).set3 z3).c3)
  have s4 := Lib.hid ((((((HZ.out.set0 z0).set1 z1).set2 z2).set3 z3).set4 z4).c4)
  have DB := Lib.hid (show Below w.heap.size w (((((V.setCell ⟨w.heap.size, 0, none⟩ (.int .i64 z0)).setCell ⟨w.heap.size, 1, none⟩ (.int .i64 z1)).setCell ⟨w.heap.size, 2, none⟩ (.int .i64 z2)).setCell ⟨w.heap.size, 3, none⟩ (.int .i64 z3)).setCell ⟨w.heap.size, 4, none⟩ (.int .i64 z4)).drew from (((((HB3.out.setCell (Nat.le_refl _) _).setCell (by simp) _).setCell (by simp) _).setCell (by simp) _).setCell (by simp) _).drew)
  clear HZ HB3 HV
  go_region
  all_goals
    go_wp2
    clear a0 a1 a2 a3 a4 e0 e1 e2 e3 e4
    refine bodyPost_ret (v := .tuple #[.int .i64 v, .agg #[.int .i64 z0, .int .i64 z1, .int .i64 z2, .int .i64 z3, .int .i64 z4], .bool b]) (by simp [results, Try.results59, go_sem, s0.out, s1.out, s2.out, s3.out, s4.out]) rfl ⟨rfl, DB.out⟩

theorem seeRec (h : Mem1 w B p size zs st) (k : Nat) (hk : k < mn zs.length) : Calls Try.prog 59 #[.pointer (some ⟨p, 0, none⟩), .int .i64 (3 + 5 * (k : Int))] w fun e w' =>
    e = .returned (.tuple #[.int .i64 (3 + 5 * (k : Int)), recV zs (3 + 5 * k), .bool true]) ∧ Below w.heap.size w w' :=
  seeBy _ _ _ _ _ _ _ fun _ hb => seeIn (h.keep hb) k hk

theorem seeNo (h : Mem1 w B p size zs st) (a : Int) (ha : ∀ k : Nat, k < mn zs.length → a ≠ 3 + 5 * (k : Int)) (a1 : a ≤ 9223372036854775807) : Calls Try.prog 59 #[.pointer (some ⟨p, 0, none⟩), .int .i64 a] w fun e w' =>
    e = .returned (.tuple #[.int .i64 a, .agg #[.int .i64 0, .int .i64 0, .int .i64 0, .int .i64 0, .int .i64 0], .bool false]) ∧ Below w.heap.size w w' :=
  seeBy _ _ _ _ _ _ _ fun _ hb => seeOut (h.keep hb) a ha a1
end

/-- A way along a list. -/
def WalkAt (W : World) (wb p mb : Nat) (lost : Bool) : Prop := W.heap[wb]? = some (.cells #[.pointer (some ⟨p, 0, none⟩), .map (some mb), .bool lost] 74 (0, 0))

section
variable {W W' : World} {wb p mb : Nat} {lost : Bool}
theorem WalkAt.c0 (h : WalkAt W wb p mb lost) : W.cell? ⟨wb, 0, none⟩ = some (.pointer (some ⟨p, 0, none⟩)) := by unfold WalkAt at h; simp [World.cell?, h]
theorem WalkAt.c1 (h : WalkAt W wb p mb lost) : W.cell? ⟨wb, 1, none⟩ = some (.map (some mb)) := by unfold WalkAt at h; simp [World.cell?, h]
theorem WalkAt.c2 (h : WalkAt W wb p mb lost) : W.cell? ⟨wb, 2, none⟩ = some (.bool lost) := by unfold WalkAt at h; simp [World.cell?, h]
theorem WalkAt.f (h : WalkAt W wb p mb lost) (o : Nat) : W.frozen? ⟨wb, o, none⟩ = false := by unfold WalkAt at h; simp [World.frozen?, h]
theorem WalkAt.lt (h : WalkAt W wb p mb lost) : wb < W.heap.size := lt_of_block h
theorem WalkAt.keep (h : WalkAt W wb p mb lost) (hb : Below W.heap.size W W') : WalkAt W' wb p mb lost := (hb.block wb h.lt).trans h
theorem WalkAt.set (h : WalkAt W wb p mb lost) (b : Bool) : WalkAt (W.setCell ⟨wb, 2, none⟩ (.bool b)) wb p mb b := by unfold WalkAt; rw [heap_setCell_same W wb 2 _ _ _ h]; rfl
end

set_option maxRecDepth 100000 in
theorem fromAny (p : Nat) (w : World) : Calls Try.prog 39 #[.pointer (some ⟨p, 0, none⟩)] w fun e w' =>
    e = .returned (.pointer (some ⟨w.heap.size + 1, 0, none⟩)) ∧ WalkAt w' (w.heap.size + 1) p w.heap.size false ∧ MapIs w' w.heap.size (metE []) ∧ Below w.heap.size w w' := by
  have hmm := @run_makeMap Try.prog
  go_enter Try.func39, Try.ntmps39
  go_wp2
  go_ret
  refine ⟨by simp, ?_, ?_, ?_⟩
  · have := heap_alloc_new (w.alloc (.map #[] 0)) (.cells #[.pointer (some ⟨p, 0, none⟩), .map (some w.heap.size), .bool false] 74)
    simpa [WalkAt] using this
  · exact (Below.heap_alloc _ _ _ (by simp)).trans (MapIs.new w)
  · exact ((Below.refl _ _).alloc (Nat.le_refl _) _).alloc (by simp) _

set_option maxRecDepth 100000 in
theorem allAny (p : Nat) (w : World) : Calls Try.prog 41 #[.pointer (some ⟨p, 0, none⟩)] w fun e w' =>
    e = .returned (.func (.func 60) #[] #[.pointer (some ⟨w.heap.size, 0, none⟩)]) ∧ w'.heap[w.heap.size]? = some (.cells #[.pointer (some ⟨p, 0, none⟩)] 31 (0, 0)) ∧ Below w.heap.size w w' := by
  have hmf : ∀ (fn : Fn) (first cap : Array Value) (w : World), (Instr.makeFunc fn first cap).run Try.prog w = .ok (.func fn first cap) w := fun _ _ _ _ => rfl
  go_enter Try.func41, Try.ntmps41
  go_wp2
  go_ret
  exact ⟨rfl, heap_alloc_new w _, (Below.refl _ _).alloc (Nat.le_refl _) _⟩

/-- Who nobody asked for a while. -/
def oldB (z0 z1 z2 pass age : Int) : Bool := decide (z1 = 1) && (decide (z0 = 0) && decide (age < wrap64 (pass - z2)))

set_option maxRecDepth 100000 in
set_option maxHeartbeats 1600000 in
theorem staleAny (z0 z1 z2 z3 z4 pass age : Int) (w : World) : Calls Try.prog 45 #[.agg #[.int .i64 z0, .int .i64 z1, .int .i64 z2, .int .i64 z3, .int .i64 z4], .int .i64 pass, .int .i64 age] w fun e w' =>
    e = .returned (.bool (oldB z0 z1 z2 pass age)) ∧ Below w.heap.size w w' := by
  by_cases h1 : z1 = 1
  · subst h1
    by_cases h0 : z0 = 0
    · subst h0
      rw [show oldB 0 1 z2 pass age = decide (age < wrap64 (pass - z2)) by simp [oldB]]
      go_enter Try.func45, Try.ntmps45
      go_wp2
      go_ret
      exact ⟨rfl, (Below.refl _ _).alloc (Nat.le_refl _) _⟩
    · have h0 : (z0 == 0) = false := by simpa using h0
      rw [show oldB z0 1 z2 pass age = false by simp at h0; simp [oldB, h0]]
      go_enter Try.func45, Try.ntmps45
      go_wp2
      go_ret
      exact ⟨rfl, (Below.refl _ _).alloc (Nat.le_refl _) _⟩
  · have h1 : (z1 == 1) = false := by simpa using h1
    rw [show oldB z0 z1 z2 pass age = false by simp at h1; simp [oldB, h1]]
    go_enter Try.func45, Try.ntmps45
    go_wp2
    go_ret
    exact ⟨rfl, (Below.refl _ _).alloc (Nat.le_refl _) _⟩

end Go.Proofs.Ytllgcnljpehgeaa.M2
