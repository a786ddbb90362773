/-
  A range over a method value (its receiver is bound, nothing is captured) whose rounds all come to their end: N rounds, one behind the other. Conditions: outside of any other round; no Go function is looked at here.
-/
import Derived.Test.YthjcfeljbmehmaaRngB
import Derived.RangeFuncNested
import Derived.RangeFuncBound
import Derived.RangeFuncCalls
import Derived.RangeFuncLeaves
import Derived.RangeFuncBox
import Derived.Shelf.Abstract
import Derived.Shelf.RegionOpen
import Derived.OwnWalkIn
import Derived.TacticsInMore
import Derived.LoopNIn
import Derived.LoopIn
import Derived.Maps.AppendAt
namespace Go.Proofs.Ythjcfeljbmehmaa
open Go.RowKit Go.Shelf

/-- What a method tells that goes through N things, the thing number k being told as encs k: whatever J is kept by drawing and by each round stands behind it. -/
def SeqOf (F : Fence) (n : Nat) (P : Program) (gf : Nat) (r : Value) (encs : Nat → Array Value) (N : Nat) (I : Nat → World → Prop) : Prop :=
  ∀ (l : Nat) (J : Nat → World → Prop) (W : World), (∀ k A, J k A → I k A) → (∀ k A q, J k A → J k (A.drewN q)) →
    (∀ k A, J k A → k < N → YieldAt F (n - 1) P l (encs k) A fun e A' => e = .returned (.bool true) ∧ J (k + 1) A') → J 0 W →
    CallsIn F n P gf #[r, .func (.yield l) #[] #[]] W fun e W' => (∃ v, e = .returned v) ∧ J N W'

/-- The two blocks that the loop itself has laid. -/
def LoopAt (D : Nat) (o : Obj) (W : World) : Prop := W.heap[D + 1]? = some o ∧ W.heap[D]? = some (.deferred (some []))

theorem wpIn_rangeMethod {F : Fence} {n : Nat} {P : Program} {g : Operand} {ps : Array Tmp} {assign body : Code} {Q : Exit → Act → World → Prop} {a : Act} {w : World}
    (hro : F.round = none) (h1 : 1 ≤ n) {gf : Nat} {r : Value} (hg : a.eval g = .func (.func gf) #[r] #[]) (hFg : F.fn gf) (eg : ∀ args w, (callFunc gf args).run P w = .ok (.enter gf args) w)
    (encs : Nat → Array Value) (hps : ∀ x, (encs x).size = ps.size) (N : Nat) (I : Nat → World → Prop) (hseq : SeqOf F (n - 1) P gf r encs N I) (hI : OwnFrom w.heap.size I) (h0 : I 0 w) (a₁ : Nat → Act)
    (hassign : ∀ (l k : Nat) (W : World) (K : Act → World → Prop), K (a₁ k) W →
      assign.wpIn (F.inRound l) (n - 1 - 1) P (Exit.then K (fun _ _ _ => False)) { tmps := (ps.zip (encs k)).foldl (fun t (p, v) => t.setIfInBounds p v) a.tmps, defers := [] } W)
    (hbody : ∀ (l k : Nat) (W : World), I k W → k < N → body.wpIn (F.inRound l) (n - 1 - 1) P (fun e _ W' => e = .normal ∧ KeepsFrom w.heap.size W W' ∧ I (k + 1) W') (a₁ k) W)
    (hdone : ∀ (D : Nat) (W : World), w.heap.size ≤ D → I N W → W.heap[D]? = some (.deferred (some [])) → Q .normal { a with defers := { target := .collected D, args := #[] } :: a.defers } W) :
    (Code.rangeFunc g ps assign body).wpIn F n P Q a w := by
  refine wpIn_rangeFunc fun fn hfn => ?_
  rw [hro]
  have htell (st : LoopState) : ∃ lp : Loop, lp = { state := st, pending := none, fn, tmps := a.tmps, params := ps, assign, body, defers := w.heap.size } := ⟨_, rfl⟩
  obtain ⟨ready, hready⟩ := htell .ready
  obtain ⟨busy, hbusy⟩ := htell .busy
  obtain ⟨V, hV⟩ : ∃ V, (w.alloc (.deferred (some []))).alloc (.loop ready) = V := ⟨_, rfl⟩
  have at0 : LoopAt w.heap.size (.loop ready) V := by
    subst hV
    refine ⟨?_, (Below.heap_alloc _ _ _ (by simp)).trans (World.alloc_heap_new w _)⟩
    have := World.alloc_heap_new (w.alloc (.deferred (some []))) (.loop ready)
    rwa [World.size_alloc] at this
  have i0 : I 0 V := by subst hV; exact hI.alloc _ (hI.alloc _ h0)
  refine ⟨w.heap.size + 1, [{ target := .collected w.heap.size, args := #[] }], V, { target := .fn (.func gf) #[], args := #[r, .func (.yield (w.heap.size + 1)) #[] #[]] }, V, gf, #[r, .func (.yield (w.heap.size + 1)) #[] #[]], V, ?_, ?_, ?_, ?_, fun _ => h1, ?_⟩
  · subst hV hready; exact run_enterLoop_outer _ _ _ _ _
  · simp only [resolve, hg]; simp [go_sem]
  · intro f' hf'; simp [Target.leads] at hf'; subst hf'; exact hFg
  · simp [invoke, go_sem, eg]
  · refine (hseq (w.heap.size + 1) (fun k W => I k W ∧ LoopAt w.heap.size (.loop ready) W) V (fun _ _ h => h.1)
      (fun k A q h => ⟨hI k A _ none h.1 ⟨rfl, rfl, rfl, Nat.le_refl _, fun _ _ _ => rfl⟩ (fun r e => by cases e), h.2⟩) ?_ ⟨i0, at0⟩).mono ?_
    · rintro k W ⟨hi, hl, hd⟩ hk
      have hlt := (Array.getElem?_eq_some_iff.1 hl).1
      have hy := run_yield (P := P) (args := encs k) hl (by rw [hready]; exact hps k)
      rw [hready] at hy
      refine ⟨fn, _, assign, body, hy, roundIn_of_wpIn hfn (hassign _ k W _ ?_)⟩
      refine ⟨W.putObj (w.heap.size + 1) (.loop busy), by have := run_beginRound (P := P) hl (by rw [hready]); subst hready hbusy; exact this, ?_⟩
      have hl2 : (W.putObj (w.heap.size + 1) (.loop busy)).heap[w.heap.size + 1]? = some (.loop busy) := World.putObj_heap_same hlt
      have hd2 : (W.putObj (w.heap.size + 1) (.loop busy)).heap[w.heap.size]? = some (.deferred (some [])) := (World.putObj_heap_other (by omega)).trans hd
      refine wpIn_mono (hbody _ k _ (hI.putObj _ hi (by omega) hl rfl) hk) ?_
      rintro e a3 W3 ⟨rfl, hkeep, hi3⟩
      have hl3 := hkeep.same _ _ (by omega) hl2 rfl
      have hd3 := hkeep.same _ _ (Nat.le_refl _) hd2 rfl
      refine ⟨_, W3.putObj (w.heap.size + 1) (.loop ready), by have := run_endRound (P := P) none hl3; subst hready hbusy; exact this, rfl, hI.putObj _ hi3 (by omega) hl3 rfl, World.putObj_heap_same (Array.getElem?_eq_some_iff.1 hl3).1, (World.putObj_heap_other (by omega)).trans hd3⟩
    · rintro e W2 ⟨⟨v, rfl⟩, hi, hl, hd⟩
      refine ⟨none, _, by have := run_endLoop (P := P) hl (by rw [hready]; simp); rw [hready] at this; exact this, hdone w.heap.size _ (Nat.le_refl _) (hI.putObj _ hi (by omega) hl rfl) ((World.putObj_heap_other (by omega)).trans hd)⟩

end Go.Proofs.Ythjcfeljbmehmaa
