/-
  Coins in a walk: what is known of one, or of two that know nothing of one another, between the calls. Conditions: none; no Go function is walked here.
-/
import Derived.Test.YtkpjgekhcjjlpaaCoinKnown
namespace Go.Proofs.Ytkpjgekhcjjlpaa
open Go.RowKit

/-- A coin whose blocks are all new, and nothing old is touched. -/
def At (w : World) (F : Nat → Prop) (p : Nat) (bs : List Bool) (wr : World) : Prop := Coin wr F p bs ∧ Below w.heap.size w wr ∧ ∀ g, F g → w.heap.size ≤ g

section
variable {w a b : World} {F G : Nat → Prop} {p q : Nat} {bs bs' cs : List Bool}
theorem At.new (h : Coin b (New w b) p bs) (hb : Below w.heap.size w b) : At w (New w b) p bs b := ⟨h, hb, fun _ hg => hg.1⟩
theorem At.fresh (h : At w F p bs a) (hb : Below a.heap.size a b) : At w F p bs b := ⟨h.1.fresh hb, h.2.1.trans (hb.mono h.2.1.size), h.2.2⟩
theorem At.drew (h : At w F p bs a) : At w F p bs a.drew := h.fresh (Below.refl _ _).drew
theorem At.next (h : At w F p bs a) (d : Did F p bs' a b) : ∃ F', At w F' p bs' b ∧ Wrote F a b ∧ Later F F' a := by
  obtain ⟨F', s, wr, l⟩ := d
  refine ⟨F', ⟨s, h.2.1.trans (wr.below h.2.1.size h.2.2), fun g hg => ?_⟩, wr, l⟩
  rcases l g hg with h1 | h1
  · exact h.2.2 g h1
  · exact Nat.le_trans h.2.1.size h1
theorem At.lt (h : At w F p bs a) : ∀ g, F g → g < a.heap.size := h.1.foot
theorem At.copied (h : At w F p bs a) (s : Coin b (New a b) q cs) (hb : Below a.heap.size a b) : At w (New a b) q cs b ∧ Apart F (New a b) :=
  ⟨⟨s, h.2.1.trans (hb.mono h.2.1.size), fun _ hg => Nat.le_trans h.2.1.size hg.1⟩, New.apart h.lt⟩
/-- Old memory is none of its own. -/
theorem At.old (h : At w F p bs a) {ao : Option Addr} {n : Nat} (ho : 0 < n → ∀ x, ao = some x → x.block < w.heap.size) : 0 < n → Off F ao := fun hp x e hf => by
  have := ho hp x e
  have := h.2.2 _ hf
  omega
/-- New memory is none of its own. -/
theorem At.young (h : At w F p bs a) {ao : Option Addr} {n : Nat} (ho : 0 < n → ∀ x, ao = some x → a.heap.size ≤ x.block) : 0 < n → Off F ao := fun hp x e hf => by
  have := ho hp x e
  have := h.lt _ hf
  omega

theorem Later.not {w : World} {F F' : Nat → Prop} {g : Nat} (l : Later F F' w) (hn : ¬ F g) (hg : g < w.heap.size) : ¬ F' g := fun e => by
  rcases l g e with h | h
  · exact hn h
  · omega

/-- Two coins that know nothing of one another. -/
structure Two (w : World) (F G : Nat → Prop) (p q : Nat) (bs cs : List Bool) (a : World) : Prop where
  c : At w F p bs a
  d : At w G q cs a
  ap : Apart F G

theorem Two.fresh (h : Two w F G p q bs cs a) (hb : Below a.heap.size a b) : Two w F G p q bs cs b := ⟨h.c.fresh hb, h.d.fresh hb, h.ap⟩
theorem Two.nextC (h : Two w F G p q bs cs a) (d : Did F p bs' a b) : ∃ F', Two w F' G p q bs' cs b := by
  obtain ⟨F', k, wr, l⟩ := h.c.next d
  exact ⟨F', k, ⟨h.d.1.apart wr h.ap.symm, k.2.1, h.d.2.2⟩, l.apart h.ap h.d.lt⟩
theorem Two.nextD (h : Two w F G p q bs cs a) (d : Did G q bs' a b) : ∃ G', Two w F G' p q bs bs' b := by
  obtain ⟨G', k, wr, l⟩ := h.d.next d
  exact ⟨G', ⟨h.c.1.apart wr h.ap, k.2.1, h.c.2.2⟩, k, (l.apart h.ap.symm h.c.lt).symm⟩
end

end Go.Proofs.Ytkpjgekhcjjlpaa
