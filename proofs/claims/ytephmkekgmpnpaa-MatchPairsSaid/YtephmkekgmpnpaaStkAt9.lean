/-
  A stack in a walk: what is known of it, of boxes and of lists beside it, between the calls. Conditions: none; no Go function is walked here.
-/
import Derived.Test.YtephmkekgmpnpaaStkEach9
namespace Go.Proofs.Ytephmkekgmpnpaa
open Go.RowKit

/-- A stack whose blocks are all new, and nothing old is touched. -/
def At (w : World) (F : Nat → Prop) (p : Nat) (most : Int) (zs : List Int) (wr : World) : Prop := Stk wr F p most zs ∧ Below w.heap.size w wr ∧ ∀ g, F g → w.heap.size ≤ g

section
variable {w a b : World} {F G : Nat → Prop} {p : Nat} {most : Int} {zs zs' : List Int}
theorem At.new {n : Int} (h : Stk b (New w b) p n zs) (hb : Below w.heap.size w b) : At w (New w b) p n zs b := ⟨h, hb, fun _ hg => hg.1⟩
theorem At.fresh (h : At w F p most zs a) (hb : Below a.heap.size a b) : At w F p most zs b := ⟨h.1.fresh hb, h.2.1.trans (hb.mono h.2.1.size), h.2.2⟩
theorem At.drew (h : At w F p most zs a) : At w F p most zs a.drew := h.fresh (Below.refl _ _).drew
theorem At.next (h : At w F p most zs a) (d : Did F p most zs' a b) : ∃ F', At w F' p most zs' b ∧ Wrote F a b ∧ Later F F' a := by
  obtain ⟨F', s, wr, l⟩ := d
  refine ⟨F', ⟨s, h.2.1.trans (wr.below h.2.1.size h.2.2), fun g hg => ?_⟩, wr, l⟩
  rcases l g hg with h1 | h1
  · exact h.2.2 g h1
  · exact Nat.le_trans h.2.1.size h1
theorem At.lt (h : At w F p most zs a) : ∀ g, F g → g < a.heap.size := h.1.foot
/-- Another one's call. -/
theorem At.apart {m2 : Int} {q : Nat} {ys ys' : List Int} (h : At w F p most zs a) (k : At w G q m2 ys a) (ha : Apart F G) (d : Did G q m2 ys' a b) : At w F p most zs b ∧ ∃ G', At w G' q m2 ys' b ∧ Apart F G' ∧ Wrote G a b ∧ Later G G' a := by
  obtain ⟨G', k2, wr, l⟩ := k.next d
  exact ⟨⟨h.1.apart wr ha, k2.2.1, h.2.2⟩, G', k2, (l.apart ha.symm h.lt).symm, wr, l⟩

/-- Numbers that lie beside a stack. -/
def Beside (F : Nat → Prop) (w : World) (ao : Option Addr) (n : Nat) (zs : List Int) : Prop := Reads .i32 w ao n zs ∧ Off F ao ∧ ∀ x, ao = some x → x.block < w.heap.size
theorem Beside.keep {ao : Option Addr} {n : Nat} (h : Beside F a ao n zs) (hb : Below a.heap.size a b) : Beside F b ao n zs := ⟨h.1.keep hb, h.2.1, fun x hx => Nat.lt_of_lt_of_le (h.2.2 x hx) hb.size⟩
theorem Beside.off {F' : Nat → Prop} {ao : Option Addr} {n : Nat} (h : Beside F a ao n zs) (hw : Wrote F a b) (l : Later F F' a) : Beside F' b ao n zs :=
  ⟨h.1.off h.2.1 hw, fun x hx => l.not (h.2.1 x hx) (h.2.2 x hx), fun x hx => Nat.lt_of_lt_of_le (h.2.2 x hx) hw.size⟩
/-- What is told lies beside the stack. -/
theorem beside_told {e : Ending} (hF : ∀ g, F g → g < a.heap.size) (h : Told a zs e b) : Beside F b (some ⟨a.heap.size, 0, none⟩) zs.length zs := by
  obtain ⟨_, ho, hb⟩ := h
  obtain ⟨ao, cap, e, hr, _, _⟩ := reads_own ho
  simp only [Value.slice.injEq] at e
  obtain ⟨rfl, _, _⟩ := e
  refine ⟨hr, fun x hx => ?_, fun x hx => ?_⟩
  · injection hx with hx
    subst hx
    intro hg
    have := hF a.heap.size hg
    omega
  · injection hx with hx
    subst hx
    exact (ho.lt a.heap.size rfl).2

theorem itemsBeside (h : Stk a F p most zs) (n : Nat) (hn : zs.length = n) :
    Calls Try.prog 15 #[.pointer (some ⟨p, 0, none⟩)] a fun e w' => e = .returned (.slice (some ⟨a.heap.size, 0, none⟩) n n) ∧ Beside F w' (some ⟨a.heap.size, 0, none⟩) n zs ∧ Below a.heap.size a w' := by
  subst hn
  exact (itemsAny h).mono fun _ _ t => ⟨t.1, beside_told h.foot t, t.2.2⟩
end

end Go.Proofs.Ytephmkekgmpnpaa
