/-
  A deque in a walk: what becomes of it, of boxes and of lists beside it, between the calls. Conditions: none; no Go function is walked here.
-/
import Derived.Test.YthjcfeljbmehmaaItems
namespace Go.Proofs.Ythjcfeljbmehmaa
open Go.RowKit

/-- A code and a value in a block of their own. -/
def RBox (w : World) (g : Nat) (c x : Int) : Prop := w.heap[g]? = some (.cells #[.int .u8 c, .int .i32 x] 31 (0, 0))
section
variable {w : World} {g : Nat} {c x : Int}
theorem RBox.c0 (h : RBox w g c x) : w.cell? ⟨g, 0, none⟩ = some (.int .u8 c) := by unfold RBox at h; simp [World.cell?, h]
theorem RBox.c1 (h : RBox w g c x) : w.cell? ⟨g, 1, none⟩ = some (.int .i32 x) := by unfold RBox at h; simp [World.cell?, h]
theorem RBox.f (h : RBox w g c x) (j : Nat) : w.frozen? ⟨g, j, none⟩ = false := by unfold RBox at h; simp [World.frozen?, h]
theorem RBox.lt (h : RBox w g c x) : g < w.heap.size := lt_of_block h
theorem RBox.set2 (h : RBox w g c x) (c' x' : Int) : RBox ((w.setCell ⟨g, 0, none⟩ (.int .u8 c')).setCell ⟨g, 1, none⟩ (.int .i32 x')) g c' x' := by
  unfold RBox at h ⊢
  rw [heap_setCell_same _ g 1 _ _ _ (heap_setCell_same w g 0 _ _ _ h)]
  rfl
end

section
variable {w W w1 : World} {F : Nat → Prop} {p : Nat} {most : Int} {zs : List Int}

/-- What stands behind a call on the stack, and a store into a box that was made ahead of it. -/
theorem Did.boxed (hF : ∀ g, F g → g < w.heap.size) (hb : Below w.heap.size w W) (d : Did F p most zs W w1) {g : Nat} (hg : w.heap.size ≤ g) (hl : g < W.heap.size) :
    w1.heap[g]? = W.heap[g]? ∧ ∀ a b, Did F p most zs w ((w1.setCell ⟨g, 0, none⟩ a).setCell ⟨g, 1, none⟩ b) := by
  obtain ⟨F', s, wr, l⟩ := d
  have hn : ¬ F g := fun e => by have := hF g e; omega
  have hn' : ¬ F' g := fun e => by
    rcases l g e with h | h
    · exact hn h
    · omega
  refine ⟨wr.block g hl hn, fun a b => ⟨F', ?_, ?_, ?_⟩⟩
  · exact s.apart (((Wrote.refl (fun k => k = g) w1).setCell (q := ⟨g, 0, none⟩) (.inr rfl) a).setCell (q := ⟨g, 1, none⟩) (.inr rfl) b) (fun k h1 h2 => hn' (by subst h2; exact h1))
  · exact (((Wrote.of hb F).trans wr).setCell (q := ⟨g, 0, none⟩) (.inl hg) a).setCell (q := ⟨g, 1, none⟩) (.inl hg) b
  · intro k hk
    rcases l k hk with h | h
    · exact .inl h
    · exact .inr (Nat.le_trans hb.size h)

theorem boxed1 (w : World) : ∀ W, w.alloc (.cells #[.int .u8 0, .int .i32 0] 31) = W → RBox W w.heap.size 0 0 ∧ Below w.heap.size w W := by
  rintro W rfl
  exact ⟨heap_alloc_new w _, (Below.refl _ _).alloc (Nat.le_refl _) _⟩

end


/-- A stack whose blocks are all new, and nothing old is touched. -/
def At (w : World) (F : Nat → Prop) (p : Nat) (most : Int) (zs : List Int) (wr : World) : Prop := Rng wr F p most zs ∧ Below w.heap.size w wr ∧ ∀ g, F g → w.heap.size ≤ g

section
variable {w a b : World} {F G : Nat → Prop} {p : Nat} {most : Int} {zs zs' : List Int}
theorem At.new {n : Int} (h : Rng b (New w b) p n zs) (hb : Below w.heap.size w b) : At w (New w b) p n zs b := ⟨h, hb, fun _ hg => hg.1⟩
theorem At.fresh (h : At w F p most zs a) (hb : Below a.heap.size a b) : At w F p most zs b := ⟨h.1.fresh hb, h.2.1.trans (hb.mono h.2.1.size), h.2.2⟩
theorem At.drew (h : At w F p most zs a) : At w F p most zs a.drew := h.fresh (Below.refl _ _).drew
theorem At.next (h : At w F p most zs a) (d : Did F p most zs' a b) : ∃ F', At w F' p most zs' b ∧ Wrote F a b ∧ Later F F' a := by
  obtain ⟨F', s, wr, l⟩ := d
  refine ⟨F', ⟨s, h.2.1.trans (wr.below h.2.1.size h.2.2), fun g hg => ?_⟩, wr, l⟩
  rcases l g hg with h1 | h1
  · exact h.2.2 g h1
  · exact Nat.le_trans h.2.1.size h1
theorem At.lt (h : At w F p most zs a) : ∀ g, F g → g < a.heap.size := h.1.foot
/-- Another one's call. -/
theorem At.apart {m2 : Int} {q : Nat} {ys ys' : List Int} (h : At w F p most zs a) (k : At w G q m2 ys a) (ha : Apart F G) (d : Did G q m2 ys' a b) : At w F p most zs b ∧ ∃ G', At w G' q m2 ys' b ∧ Apart F G' ∧ Wrote G a b ∧ Later G G' a := by
  obtain ⟨G', k2, wr, l⟩ := k.next d
  exact ⟨⟨h.1.apart wr ha, k2.2.1, h.2.2⟩, G', k2, (l.apart ha.symm h.lt).symm, wr, l⟩

theorem Later.not {w : World} {F F' : Nat → Prop} {g : Nat} (l : Later F F' w) (hn : ¬ F g) (hg : g < w.heap.size) : ¬ F' g := fun e => by
  rcases l g e with h | h
  · exact hn h
  · omega

theorem RBox.keep {g : Nat} {c x : Int} (h : RBox a g c x) (hb : Below a.heap.size a b) : RBox b g c x := (hb.block g h.lt).trans h
theorem RBox.off {g : Nat} {c x : Int} (h : RBox a g c x) (hn : ¬ F g) (hw : Wrote F a b) : RBox b g c x := (hw.block g h.lt hn).trans h
theorem RBox.new (w : World) (c x : Int) : RBox (w.alloc (.cells #[.int .u8 c, .int .i32 x] 31)) w.heap.size c x := heap_alloc_new w _

/-- Numbers that lie beside a stack. -/
def Beside (F : Nat → Prop) (w : World) (ao : Option Addr) (n : Nat) (zs : List Int) : Prop := Reads .i32 w ao n zs ∧ Off F ao ∧ ∀ x, ao = some x → x.block < w.heap.size
theorem Beside.keep {ao : Option Addr} {n : Nat} (h : Beside F a ao n zs) (hb : Below a.heap.size a b) : Beside F b ao n zs := ⟨h.1.keep hb, h.2.1, fun x hx => Nat.lt_of_lt_of_le (h.2.2 x hx) hb.size⟩
theorem Beside.off {F' : Nat → Prop} {ao : Option Addr} {n : Nat} (h : Beside F a ao n zs) (hw : Wrote F a b) (l : Later F F' a) : Beside F' b ao n zs :=
  ⟨h.1.off h.2.1 hw, fun x hx => l.not (h.2.1 x hx) (h.2.2 x hx), fun x hx => Nat.lt_of_lt_of_le (h.2.2 x hx) hw.size⟩
/-- What is told lies beside the stack. -/
theorem beside_told {e : Ending} (hF : ∀ g, F g → g < a.heap.size) (h : Told a zs e b) : Beside F b (some ⟨a.heap.size, 0, none⟩) zs.length zs := by
  obtain ⟨_, ho, hb⟩ := h
  obtain ⟨ao, cap, e, hr, _, _⟩ := reads_own ho
  simp only [Value.slice.injEq] at e
  obtain ⟨rfl, _, _⟩ := e
  refine ⟨hr, fun x hx => ?_, fun x hx => ?_⟩
  · injection hx with hx
    subst hx
    intro hg
    have := hF a.heap.size hg
    omega
  · injection hx with hx
    subst hx
    exact (ho.lt a.heap.size rfl).2

theorem itemsBeside (h : Rng a F p most zs) (n : Nat) (hn : zs.length = n) :
    Calls Try.prog 16 #[.pointer (some ⟨p, 0, none⟩)] a fun e w' => e = .returned (.slice (some ⟨a.heap.size, 0, none⟩) n n) ∧ Beside F w' (some ⟨a.heap.size, 0, none⟩) n zs ∧ Below a.heap.size a w' := by
  subst hn
  exact (itemsAny h).mono fun _ _ t => ⟨t.1, beside_told h.foot t, t.2.2⟩
end

end Go.Proofs.Ythjcfeljbmehmaa
