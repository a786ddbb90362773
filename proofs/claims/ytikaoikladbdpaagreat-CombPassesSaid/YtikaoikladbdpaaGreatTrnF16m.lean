/-
  What act of a turn (package comb) leaves: cst at the places of a cell, at 36 what the object tells. Conditions: a turn beside its memory, as CM says, or (place 36) beside its object; steps below a million; at most a thousand items.
-/
import Derived.Test.YtikaoikladbdpaaGreatTrnE16m
namespace Go.Proofs.YtikaoikladbdpaaGreat.M2
open Go.RowKit

set_option maxRecDepth 100000 in
set_option maxHeartbeats 4000000 in
theorem actC {w0 w : World} {M B p N : Nat} {v0 : Value} {size : Int} {t : Th} {b o : Value} {pa : Int} {dn : Value} {l : List It3} {zs : List Int} {st : Int} (h : CM w0 M B p N v0 size t b o pa dn l zs st w) (hp : 20 ≤ t.pc ∧ t.pc ≤ 39) (hd : t.pc ≠ 36) (hM : w0.heap.size ≤ M) (hl : l.length ≤ 1000) (k0 : 0 ≤ st) (k1 : st < 1000000) :
    Calls Tryz.prog 48 #[.pointer (some ⟨N, 0, none⟩)] w (ActPost w0 M B p N v0 size o pa dn (cst pa t zs l) st) := by
  refine actBy hp h.box.c1 h.box.lt (fun e w' q => q.1) (fun W hb => ?_)
  have H := h.fresh hb
  refine ⟨?_, ?_, ?_, ?_, ?_, ?_, ?_, ?_, ?_, ?_, ?_, ?_, ?_, ?_, ?_, ?_, ?_, ?_, ?_, ?_⟩
  · intro hq
    have e := cst20 pa t zs l hq
    unfold ActPost
    rw [e]
    exact (passP H k0 k1).mono fun e w' ⟨h1, h2⟩ => ⟨h1, _, h2⟩
  · intro hq
    have e := cst21 pa t zs l hq
    unfold ActPost
    rw [e]
    exact (stampP H k0 k1).mono fun e w' ⟨h1, h2⟩ => ⟨h1, _, h2⟩
  · intro hq
    have e := cst22 pa t zs l hq
    unfold ActPost
    rw [e]
    exact (manyP H).mono fun e w' ⟨h1, h2⟩ => ⟨h1, _, by rw [Int.add_zero]; exact h2⟩
  · intro hq
    have e := cst23 pa t zs l hq
    unfold ActPost
    rw [e]
    exact (lookP H k0 k1).mono fun e w' ⟨h1, h2⟩ => ⟨h1, _, h2⟩
  · intro hq
    have e := cst24 pa t zs l hq
    unfold ActPost
    rw [e]
    exact (pendP H k0 k1).mono fun e w' ⟨h1, h2⟩ => ⟨h1, _, h2⟩
  · intro hq
    have e := cst25 pa t zs l hq
    unfold ActPost
    rw [e]
    exact (helpP H k0 k1).mono fun e w' ⟨h1, h2⟩ => ⟨h1, _, h2⟩
  · intro hq
    have e := cst26 pa t zs l hq
    unfold ActPost
    rw [e]
    exact (firstP H k0 k1).mono fun e w' ⟨h1, h2⟩ => ⟨h1, _, h2⟩
  · intro hq
    have e := cst27 pa t zs l hq
    unfold ActPost
    rw [e]
    exact (bareP H k0 k1).mono fun e w' ⟨h1, h2⟩ => ⟨h1, _, h2⟩
  · intro hq
    have e := cst28 pa t zs l hq
    unfold ActPost
    rw [e]
    exact (soloP H k0 k1).mono fun e w' ⟨h1, h2⟩ => ⟨h1, _, h2⟩
  · intro hq
    have e := cst29 pa t zs l hq
    unfold ActPost
    rw [e]
    exact (afterP H k0 k1).mono fun e w' ⟨h1, h2⟩ => ⟨h1, _, h2⟩
  · intro hq
    have e := cst30 pa t zs l hq
    unfold ActPost
    rw [e]
    exact (tieP H k0 k1).mono fun e w' ⟨h1, h2⟩ => ⟨h1, _, h2⟩
  · intro hq
    have e := cst31 pa t zs l hq
    unfold ActPost
    rw [e]
    exact (setP H k0 k1).mono fun e w' ⟨h1, h2⟩ => ⟨h1, _, h2⟩
  · intro hq
    have e := cst32 pa t zs l hq
    unfold ActPost
    rw [e]
    exact (seenP H k0 k1).mono fun e w' ⟨h1, h2⟩ => ⟨h1, _, h2⟩
  · intro hq
    have e := cst33 pa t zs l hq
    unfold ActPost
    rw [e]
    exact (scanP H k0 k1).mono fun e w' ⟨h1, h2⟩ => ⟨h1, _, h2⟩
  · intro hq
    have e := cst34 pa t zs l hq
    unfold ActPost
    rw [e]
    exact (pickP H hM hl k0 k1)
  · intro hq
    have e := cst35 pa t zs l hq
    unfold ActPost
    rw [e]
    exact (nextP H hl k0 k1).mono fun e w' ⟨h1, h2⟩ => ⟨h1, _, h2⟩
  · intro hq; exact absurd hq hd
  · intro hq
    have e := cst37 pa t zs l hq
    unfold ActPost
    rw [e]
    exact (tellP H hl k0 k1).mono fun e w' ⟨h1, h2⟩ => ⟨h1, _, h2⟩
  · intro hq
    have e := cst38 pa t zs l hq
    unfold ActPost
    rw [e]
    exact (ageP H hl k0 k1).mono fun e w' ⟨h1, h2⟩ => ⟨h1, _, h2⟩
  · intro hq
    have e := cst39 pa t zs l hq
    unfold ActPost
    rw [e]
    exact (freeP H hl k0 k1).mono fun e w' ⟨h1, h2⟩ => ⟨h1, _, h2⟩

theorem actD {w : World} {F : Nat → Prop} {M N p o : Nat} {t : Th} {b dn : Value} {pa k m : Int} {pl : Bool} {s : List It × List Bool} {l : List It3} (x : TC w N p t b (.pointer (some ⟨o, 0, none⟩)) pa dn) (r : BR M w b l) (h : Ob w F o k m pl s) (hs : V32 (vals s.1)) (hN : ¬ F N) (hb : ∀ g, b.ownBlock = some g → ¬ F g) (hl : l.length ≤ 1000) (hp : t.pc = 36) :
    Calls Tryz.prog 48 #[.pointer (some ⟨N, 0, none⟩)] w (DoP w F N p t o pa k m pl s l) := by
  refine actBy (by omega) x.c1 x.lt (fun e w' q => q.1) (fun W hB => ?_)
  refine ⟨?_, ?_, ?_, ?_, ?_, ?_, ?_, ?_, ?_, ?_, ?_, ?_, ?_, ?_, ?_, ?_, ?_, ?_, ?_, ?_⟩
  · intro hq; omega
  · intro hq; omega
  · intro hq; omega
  · intro hq; omega
  · intro hq; omega
  · intro hq; omega
  · intro hq; omega
  · intro hq; omega
  · intro hq; omega
  · intro hq; omega
  · intro hq; omega
  · intro hq; omega
  · intro hq; omega
  · intro hq; omega
  · intro hq; omega
  · intro hq; omega
  · intro _
    exact (doP (M := M) ((hB.block N x.lt).trans x) (r.below hB) (h.fresh hB) hs hN hb hl).mono fun e w' q => DoP.from hB q
  · intro hq; omega
  · intro hq; omega
  · intro hq; omega

end Go.Proofs.YtikaoikladbdpaaGreat.M2
