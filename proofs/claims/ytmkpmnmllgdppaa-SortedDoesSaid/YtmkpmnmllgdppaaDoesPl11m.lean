/-
  Two lists and two coins beside one another, in a walk; blocks aside of all four. Conditions: lists and coins as PrAt says.
-/
import Derived.Test.YtmkpmnmllgdppaaRefAp11m
import Derived.Test.YtmkpmnmllgdppaaKnA11
namespace Go.Proofs.Ytmkpmnmllgdppaa
open Go.RowKit Go.Lib

/-- Two lists with a coin each. -/
structure PP (w : World) (F1 G1 F2 G2 : Nat → Prop) (p1 q1 p2 q2 : Nat) (m : Int) (s1 s2 : List It × List Bool) (a : World) : Prop where
  l : PrAt w F1 G1 (some p1) q1 m s1 a
  r : PrAt w F2 G2 (some p2) q2 m s2 a
  ap : Apart (fun g => F1 g ∨ G1 g) (fun g => F2 g ∨ G2 g)
/-- Aside of all four. -/
def AA (F1 G1 F2 G2 : Nat → Prop) (a : World) (x : Nat) : Prop := Asd F1 G1 a x ∧ Asd F2 G2 a x

section
variable {w a b : World} {F1 G1 F2 G2 : Nat → Prop} {p1 q1 p2 q2 : Nat} {m : Int} {s1 s2 : List It × List Bool} {os : List (Int × Int)} {e : Ending}
theorem PP.fresh (h : PP w F1 G1 F2 G2 p1 q1 p2 q2 m s1 s2 a) (hb : Below a.heap.size a b) : PP w F1 G1 F2 G2 p1 q1 p2 q2 m s1 s2 b := ⟨h.l.fresh hb, h.r.fresh hb, h.ap⟩
theorem PP.swap (h : PP w F1 G1 F2 G2 p1 q1 p2 q2 m s1 s2 a) : PP w F2 G2 F1 G1 p2 q2 p1 q1 m s2 s1 a := ⟨h.r, h.l, h.ap.symm⟩
theorem AA.swap {x : Nat} (h : AA F1 G1 F2 G2 a x) : AA F2 G2 F1 G1 a x := ⟨h.2, h.1⟩
theorem AA.later {x : Nat} (h : AA F1 G1 F2 G2 a x) (hs : a.heap.size ≤ b.heap.size) : AA F1 G1 F2 G2 b x := ⟨h.1.later hs, h.2.later hs⟩
theorem PP.young (h : PP w F1 G1 F2 G2 p1 q1 p2 q2 m s1 s2 a) {x : Nat} (hx : a.heap.size ≤ x) (hl : x < b.heap.size) : AA F1 G1 F2 G2 b x := ⟨h.l.asd hx hl, h.r.asd hx hl⟩
/-- Behind a feed of the first coin. -/
theorem PP.feed {l1 : List It} {b1 b1' : List Bool} (h : PP w F1 G1 F2 G2 p1 q1 p2 q2 m (l1, b1) s2 a) (d : DidC G1 q1 b1' a b) : ∃ G', PP w F1 G' F2 G2 p1 q1 p2 q2 m (l1, b1') s2 b := by
  obtain ⟨G', P', lt, hw⟩ := h.l.coin d
  have f2 := h.r.sk.1
  have g2 := h.r.co.foot
  refine ⟨G', P', ⟨h.r.sk.apart hw (fun x h1 h2 => h.ap x (.inr h2) (.inl h1)), h.r.co.apart hw (fun x h1 h2 => h.ap x (.inr h2) (.inr h1)), h.r.ap, P'.b, h.r.nF, h.r.nG⟩, fun x h1 h2 => ?_⟩
  have hxs : x < a.heap.size := h2.elim (f2 x) (g2 x)
  rcases h1 with h1 | h1
  · exact h.ap x (.inl h1) h2
  · rcases lt x h1 with h3 | h3
    · exact h.ap x (.inr h3) h2
    · omega
/-- Behind a batch at the first one. -/
theorem PP.post (h : PP w F1 G1 F2 G2 p1 q1 p2 q2 m s1 s2 a) (k : SrtPost a F1 G1 (some p1) q1 m s1 os e b) :
    ∃ g F' G', e = .returned (.slice (some ⟨g, 0, none⟩) os.length os.length) ∧ RRow b g (batT 3 m (vals s1.1) os) ∧ PP w F' G' F2 G2 p1 q1 p2 q2 m (batS m s1 os) s2 b ∧ AA F' G' F2 G2 b g ∧ (∀ x, AA F1 G1 F2 G2 a x → AA F' G' F2 G2 b x ∧ b.heap[x]? = a.heap[x]?) := by
  obtain ⟨g, F', G', he, rg, hg, P', nF, nG, hw, lF, lG⟩ := h.l.post k
  have f2 := h.r.sk.1
  have g2 := h.r.co.foot
  refine ⟨g, F', G', he, rg, ⟨P', ⟨h.r.sk.apart hw (fun x h1 h2 => h.ap x h2 (.inl h1)), h.r.co.apart hw (fun x h1 h2 => h.ap x h2 (.inr h1)), h.r.ap, P'.b, h.r.nF, h.r.nG⟩, fun x h1 h2 => ?_⟩, ⟨⟨nF, nG, rg.lt⟩, fun e => by have := f2 g e; omega, fun e => by have := g2 g e; omega, rg.lt⟩, fun x hx => ⟨⟨hx.1.next lF lG hw.size, hx.2.later hw.size⟩, hx.1.block hw⟩⟩
  have hxs : x < a.heap.size := h2.elim (f2 x) (g2 x)
  rcases h1 with h1 | h1
  · rcases lF x h1 with h3 | h3
    · exact h.ap x (.inl h3) h2
    · omega
  · rcases lG x h1 with h3 | h3
    · exact h.ap x (.inr h3) h2
    · omega
end

/-- Between two batches: all is alike, and as the document has it. -/
def DsAt (w : World) (p1 q1 p2 q2 : Nat) (m : Int) (s : List It × List Bool) (t v : Value) (wr : World) : Prop :=
  ∃ F1 G1 F2 G2 a c, t = .slice a s.1.length c ∧ PP w F1 G1 F2 G2 p1 q1 p2 q2 m s s wr ∧ ItemsAt wr a s.1.length s.1 ∧ s.1.length ≤ c ∧ (∀ y, a = some y → 0 < s.1.length → AA F1 G1 F2 G2 wr y.block) ∧ Tail wr v (s.2.map Value.bool) ∧ ∀ g, v.ownBlock = some g → AA F1 G1 F2 G2 wr g

/-- A state behind k batches. -/
def sK (m : Int) (bs : List Bool) (os ps : List (Int × Int)) : Nat → List It × List Bool
  | 0 => ([], bs)
  | 1 => batS m ([], bs) os
  | _ + 2 => batS m (batS m ([], bs) os) ps

theorem items_aside {F1 G1 F2 G2 F' G' : Nat → Prop} {a b : World} {ao : Option Addr} {n : Nat} {l : List It} (h : ItemsAt a ao n l) (hn : ∀ y, ao = some y → 0 < n → AA F1 G1 F2 G2 a y.block) (hs : a.heap.size ≤ b.heap.size) (hk : ∀ x, AA F1 G1 F2 G2 a x → AA F' G' F2 G2 b x ∧ b.heap[x]? = a.heap[x]?) :
    ItemsAt b ao n l ∧ ∀ y, ao = some y → 0 < n → AA F' G' F2 G2 b y.block := by
  refine ⟨⟨h.1, fun hp => ?_⟩, fun y hy hp => (hk _ (hn y hy hp)).1⟩
  obtain ⟨bb, off, e, hl, hc⟩ := h.2 hp
  have hx := hk bb (by have := hn _ e hp; exact this)
  exact ⟨bb, off, e, Nat.lt_of_lt_of_le hl hs, fun j u hu => (World.cell?_of_block (a := ⟨bb, off + j, none⟩) hx.2).trans (hc j u hu)⟩
theorem tail_aside {F1 G1 F2 G2 F' G' : Nat → Prop} {a b : World} {v : Value} {xs : List Value} (h : Tail a v xs) (hn : ∀ g, v.ownBlock = some g → AA F1 G1 F2 G2 a g) (hs : a.heap.size ≤ b.heap.size) (hk : ∀ x, AA F1 G1 F2 G2 a x → AA F' G' F2 G2 b x ∧ b.heap[x]? = a.heap[x]?) :
    Tail b v xs ∧ ∀ g, v.ownBlock = some g → AA F' G' F2 G2 b g := ⟨h.keep hs (fun g hg => (hk g (hn g hg)).2), fun g hg => (hk g (hn g hg)).1⟩

end Go.Proofs.Ytmkpmnmllgdppaa
