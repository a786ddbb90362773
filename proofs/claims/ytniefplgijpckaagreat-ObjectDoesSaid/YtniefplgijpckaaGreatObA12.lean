/-
  An object in memory: what holds its items, its coin, its own block; what a call leaves of it. Conditions: none; no Go function is walked here. New of package object: an empty one of a stack, a deque, a heap; none of any other. Conditions: none.
-/
import Derived.Test.YtniefplgijpckaaGreatHoA12
import Derived.Test.YtniefplgijpckaaGreatPl12m
import Derived.Test.YtniefplgijpckaaGreatDo11m
namespace Go.Proofs.YtniefplgijpckaaGreat
open Go.RowKit Go.Lib

/-- An object's own block. -/
def OBlk (w : World) (o : Nat) (h : Value) (q : Nat) (pl : Bool) : Prop := w.heap[o]? = some (.cells #[h, .pointer (some ⟨q, 0, none⟩), .bool pl] 72 (0, 0))
section
variable {w w' : World} {o q : Nat} {h : Value} {pl : Bool}
theorem OBlk.lt (x : OBlk w o h q pl) : o < w.heap.size := lt_of_block x
theorem OBlk.c0 (x : OBlk w o h q pl) : w.cell? ⟨o, 0, none⟩ = some h := by unfold OBlk at x; simp [World.cell?, x]
theorem OBlk.c1 (x : OBlk w o h q pl) : w.cell? ⟨o, 1, none⟩ = some (.pointer (some ⟨q, 0, none⟩)) := by unfold OBlk at x; simp [World.cell?, x]
theorem OBlk.c2 (x : OBlk w o h q pl) : w.cell? ⟨o, 2, none⟩ = some (.bool pl) := by unfold OBlk at x; simp [World.cell?, x]
theorem OBlk.keep (x : OBlk w o h q pl) (e : w'.heap[o]? = w.heap[o]?) : OBlk w' o h q pl := e.trans x
theorem OBlk.new (w : World) (h : Value) (q : Nat) (pl : Bool) : OBlk (w.alloc (.cells #[h, .pointer (some ⟨q, 0, none⟩), .bool pl] 72)) w.heap.size h q pl := heap_alloc_new w _
end

/-- What holds the items: a stack, a deque, a list. -/
def Held (k : Int) (w : World) (H : Nat → Prop) (p : Nat) (m : Int) (l : List It) : Prop :=
  (k = 1 ∧ K9.Stk w H p m (vals l)) ∨ (k = 2 ∧ D10.Rng w H p m (vals l)) ∨ (k = 3 ∧ SkO w H (some p) m l)
/-- The holder's type. -/
def tyOf (k : Int) : TypeId := if k = 1 then 92 else if k = 2 then 96 else 100

section
variable {w w' : World} {F F' G H : Nat → Prop} {k m : Int} {p q o : Nat} {l l' : List It} {pl : Bool} {s s' : List It × List Bool}
theorem Held.kind (h : Held k w H p m l) : k = 1 ∨ k = 2 ∨ k = 3 := by rcases h with h | h | h <;> simp [h.1]
theorem Held.foot (h : Held k w H p m l) : ∀ g, H g → g < w.heap.size := by
  rcases h with h | h | h
  · exact h.2.foot
  · exact h.2.foot
  · exact h.2.1
theorem Held.apart (h : Held k w H p m l) (hw : Wrote G w w') (ha : Apart H G) : Held k w' H p m l := by
  rcases h with h | h | h
  · exact .inl ⟨h.1, h.2.apart hw ha⟩
  · exact .inr (.inl ⟨h.1, h.2.apart hw ha⟩)
  · exact .inr (.inr ⟨h.1, h.2.apart hw ha⟩)
theorem Held.room (h : Held k w H p m l) : (l.length : Int) ≤ m ∧ 0 ≤ m ∧ m ≤ 1000 := by
  rcases h with h | h | h
  · have := h.2.room; rw [vals_length] at this; exact ⟨this, h.2.s0, h.2.s1⟩
  · have := h.2.room; rw [vals_length] at this; exact ⟨this, h.2.s0, h.2.s1⟩
  · exact h.2.room

/-- An object, all of whose blocks are of F. -/
def Ob (w : World) (F : Nat → Prop) (o : Nat) (k m : Int) (pl : Bool) (s : List It × List Bool) : Prop :=
  ∃ H G p q, OBlk w o (holdV (tyOf k) p) q pl ∧ Held k w H p m s.1 ∧ Coin w G q s.2 ∧ Apart H G ∧ ¬ H o ∧ ¬ G o ∧ F o ∧ (∀ g, H g → F g) ∧ (∀ g, G g → F g) ∧ ∀ g, F g → g < w.heap.size
theorem Ob.kind (h : Ob w F o k m pl s) : k = 1 ∨ k = 2 ∨ k = 3 := by obtain ⟨_, _, _, _, _, h, _⟩ := h; exact h.kind
theorem Ob.foot (h : Ob w F o k m pl s) : ∀ g, F g → g < w.heap.size := by obtain ⟨_, _, _, _, _, _, _, _, _, _, _, _, _, h⟩ := h; exact h
theorem Ob.room (h : Ob w F o k m pl s) : (s.1.length : Int) ≤ m ∧ 0 ≤ m ∧ m ≤ 1000 := by obtain ⟨_, _, _, _, _, h, _⟩ := h; exact h.room
theorem Ob.apart (h : Ob w F o k m pl s) (hw : Wrote G w w') (ha : Apart F G) : Ob w' F o k m pl s := by
  obtain ⟨H, C, p, q, h1, h2, h3, h4, h5, h6, h7, h8, h9, h10⟩ := h
  exact ⟨H, C, p, q, h1.keep (hw.block o h1.lt (fun e => ha o h7 e)), h2.apart hw (fun g a b => ha g (h8 g a) b), h3.apart hw (fun g a b => ha g (h9 g a) b), h4, h5, h6, h7, h8, h9, fun g hg => Nat.lt_of_lt_of_le (h10 g hg) hw.size⟩
theorem Ob.fresh (h : Ob w F o k m pl s) (hb : Below w.heap.size w w') : Ob w' F o k m pl s := h.apart (Wrote.of hb (fun _ => False)) (fun _ _ h => h)

/-- What a call on it leaves. -/
def DidB (F : Nat → Prop) (o : Nat) (k m : Int) (pl : Bool) (s : List It × List Bool) (w w' : World) : Prop := ∃ F', Ob w' F' o k m pl s ∧ Wrote F w w' ∧ Later F F' w
theorem Ob.did (h : Ob w F o k m pl s) (hb : Below w.heap.size w w') : DidB F o k m pl s w w' := ⟨F, h.fresh hb, Wrote.of hb F, Later.refl _ _⟩

/-- An object that was made, out of a holder and a coin. -/
theorem Ob.made {w0 w1 w2 : World} (b0 : Below w.heap.size w w0) (h : Held k w1 (New w0 w1) p m l) (b1 : Below w0.heap.size w0 w1) {bs : List Bool} (c : Coin w2 (New w1 w2) q bs) (b2 : Below w1.heap.size w1 w2) (pl : Bool) :
    ∀ W, w2.alloc (.cells #[holdV (tyOf k) p, .pointer (some ⟨q, 0, none⟩), .bool pl] 72) = W → Ob W (New w W) w2.heap.size k m pl (l, bs) ∧ Below w.heap.size w W := by
  rintro W rfl
  have s0 := b0.size
  have s1 := b1.size
  have s2 := b2.size
  have hb : Below w2.heap.size w2 (w2.alloc (.cells #[holdV (tyOf k) p, .pointer (some ⟨q, 0, none⟩), .bool pl] 72)) := (Below.refl _ _).alloc (Nat.le_refl _) _
  have sz : (w2.alloc (.cells #[holdV (tyOf k) p, .pointer (some ⟨q, 0, none⟩), .bool pl] 72)).heap.size = w2.heap.size + 1 := by simp
  refine ⟨⟨New w0 w1, New w1 w2, p, q, OBlk.new w2 _ q pl, (h.apart (Wrote.of b2 (fun _ => False)) (fun _ _ h => h)).apart (Wrote.of hb (fun _ => False)) (fun _ _ h => h), c.fresh hb, fun g a b => ?_, fun a => ?_, fun a => ?_, ⟨?_, ?_⟩, fun g a => ⟨?_, ?_⟩, fun g a => ⟨?_, ?_⟩, fun g a => a.2⟩, ((b0.trans (b1.mono s0)).trans (b2.mono (Nat.le_trans s0 s1))).trans (hb.mono (by omega))⟩
  · have := a.2; have := b.1; omega
  · have := a.2; omega
  · have := a.2; omega
  · omega
  · omega
  · have := a.1; omega
  · have := a.2; omega
  · have := a.1; omega
  · have := a.2; omega

/-- Its blocks behind a call. -/
def OF (o : Nat) (H G : Nat → Prop) : Nat → Prop := fun g => g = o ∨ H g ∨ G g
/-- Behind a call on the holder (and, it may be, on the coin). -/
theorem Ob.next {w2 : World} {H' G' C : Nat → Prop} (x : OBlk w o (holdV (tyOf k) p) q pl) (n1 : ¬ H o) (n2 : ¬ C o) (f0 : F o) (f1 : ∀ g, H g → F g) (f2 : ∀ g, C g → F g)
    (h : Held k w2 H' p m s'.1) (c : Coin w2 G' q s'.2) (ap : Apart H' G') (wr : Wrote (fun g => H g ∨ C g) w w2) (lH : Later H H' w) (lC : Later C G' w) : Ob w2 (OF o H' G') o k m pl s' ∧ Wrote F w w2 ∧ Later F (OF o H' G') w := by
  refine ⟨⟨H', G', p, q, x.keep (wr.block o x.lt (fun e => e.elim n1 n2)), h, c, ap, lH.not n1 x.lt, lC.not n2 x.lt, .inl rfl, fun g a => .inr (.inl a), fun g a => .inr (.inr a), fun g a => ?_⟩, wr.into (fun g hg => hg.elim (f1 g) (f2 g)), fun g hg => ?_⟩
  · rcases a with rfl | a | a
    · exact Nat.lt_of_lt_of_le x.lt wr.size
    · exact h.foot g a
    · exact c.foot g a
  · rcases hg with rfl | hg | hg
    · exact .inl f0
    · exact (lH g hg).imp (f1 g) id
    · exact (lC g hg).imp (f2 g) id
end

end Go.Proofs.YtniefplgijpckaaGreat
namespace Go.Proofs.YtniefplgijpckaaGreat
open Go.RowKit Go.Lib

theorem zeroHold (w : World) : (zeroValue 63).run Tryz.prog w = .ok .nilFunc w := by kernel_rfl

/-- What New leaves. -/
def ObNew (w : World) (k m : Int) (pl : Bool) (s : List It × List Bool) (e : Ending) (w' : World) : Prop := ∃ o, e = .returned (.pointer (some ⟨o, 0, none⟩)) ∧ Ob w' (New w w') o k m pl s ∧ Below w.heap.size w w'

set_option maxRecDepth 100000 in
set_option maxHeartbeats 3200000 in
theorem obNew1 (n : Int) (pl : Bool) (w : World) :
    Calls Tryz.prog 13 #[.int .u8 1, .int .i64 n, .bool pl] w (ObNew w 1 (mostOf n) pl ([], [])) := by
  have HM := Lib.hid (holdersAny w)
  go_enter Tryz.func13, Tryz.ntmps13
  go_wp2_with fail
  refine HM.out.mono ?_
  clear HM
  rintro e w0 ⟨b0, m, rfl, hm⟩
  have L := run_look8 w0 65 5 63 m holdM 1 true 0 _ Tryz.underlying65 Tryz.underlying5 hm rfl
  have HB := Lib.hid b0
  clear b0 hm
  go_wp2_with fail
  refine (holdNew1 n w0).mono ?_
  clear L
  rintro e w1 ⟨p, rfl, h1, b1⟩
  have H1 := Lib.hid (And.intro (show Held 1 w1 (New w0 w1) p (mostOf n) [] from .inl ⟨rfl, h1⟩) b1)
  clear h1 b1
  unfold holdV
  go_wp2_with fail
  refine (newC w1).mono ?_
  rintro e w2 ⟨rfl, h2, b2⟩
  have H2 := Lib.hid (Ob.made HB.out H1.out.1 H1.out.2 h2 b2 pl _ rfl)
  clear h2 b2 HB H1
  go_wp2
  go_ret
  exact ⟨_, rfl, H2.out.1, H2.out.2⟩

set_option maxRecDepth 100000 in
set_option maxHeartbeats 3200000 in
theorem obNew2 (n : Int) (pl : Bool) (w : World) :
    Calls Tryz.prog 13 #[.int .u8 2, .int .i64 n, .bool pl] w (ObNew w 2 (mostOf n) pl ([], [])) := by
  have HM := Lib.hid (holdersAny w)
  go_enter Tryz.func13, Tryz.ntmps13
  go_wp2_with fail
  refine HM.out.mono ?_
  clear HM
  rintro e w0 ⟨b0, m, rfl, hm⟩
  have L := run_look8 w0 65 5 63 m holdM 2 true 1 _ Tryz.underlying65 Tryz.underlying5 hm rfl
  have HB := Lib.hid b0
  clear b0 hm
  go_wp2_with fail
  refine (holdNew2 n w0).mono ?_
  clear L
  rintro e w1 ⟨p, rfl, h1, b1⟩
  have H1 := Lib.hid (And.intro (show Held 2 w1 (New w0 w1) p (mostOf n) [] from .inr (.inl ⟨rfl, h1⟩)) b1)
  clear h1 b1
  unfold holdV
  go_wp2_with fail
  refine (newC w1).mono ?_
  rintro e w2 ⟨rfl, h2, b2⟩
  have H2 := Lib.hid (Ob.made HB.out H1.out.1 H1.out.2 h2 b2 pl _ rfl)
  clear h2 b2 HB H1
  go_wp2
  go_ret
  exact ⟨_, rfl, H2.out.1, H2.out.2⟩

set_option maxRecDepth 100000 in
set_option maxHeartbeats 3200000 in
theorem obNew3 (n : Int) (pl : Bool) (w : World) :
    Calls Tryz.prog 13 #[.int .u8 3, .int .i64 n, .bool pl] w (ObNew w 3 (mostOf n) pl ([], [])) := by
  have HM := Lib.hid (holdersAny w)
  go_enter Tryz.func13, Tryz.ntmps13
  go_wp2_with fail
  refine HM.out.mono ?_
  clear HM
  rintro e w0 ⟨b0, m, rfl, hm⟩
  have L := run_look8 w0 65 5 63 m holdM 3 true 2 _ Tryz.underlying65 Tryz.underlying5 hm rfl
  have HB := Lib.hid b0
  clear b0 hm
  go_wp2_with fail
  refine (holdNew3 n w0).mono ?_
  clear L
  rintro e w1 ⟨p, rfl, h1, b1⟩
  have H1 := Lib.hid (And.intro (show Held 3 w1 (New w0 w1) p (mostOf n) [] from .inr (.inr ⟨rfl, SkO.of h1⟩)) b1)
  clear h1 b1
  unfold holdV
  go_wp2_with fail
  refine (newC w1).mono ?_
  rintro e w2 ⟨rfl, h2, b2⟩
  have H2 := Lib.hid (Ob.made HB.out H1.out.1 H1.out.2 h2 b2 pl _ rfl)
  clear h2 b2 HB H1
  go_wp2
  go_ret
  exact ⟨_, rfl, H2.out.1, H2.out.2⟩

set_option maxRecDepth 100000 in
set_option maxHeartbeats 3200000 in
theorem obNone (k n : Int) (pl : Bool) (w : World) (n1 : ¬ k = 1) (n2 : ¬ k = 2) (n3 : ¬ k = 3) :
    Calls Tryz.prog 13 #[.int .u8 k, .int .i64 n, .bool pl] w fun e w' => e = .returned (.pointer none) ∧ Below w.heap.size w w' := by
  have HM := Lib.hid (holdersAny w)
  have HF := Lib.hid (show Instr.findNow (.int .u8) (.int .u8 k) holdM.toList 0 = some none from find_none _ _ (fun e he => by
      simp only [holdM, List.mem_cons, List.not_mem_nil, or_false] at he
      rcases he with rfl | rfl | rfl
      · exact ⟨1, rfl, fun h => n1 h.symm⟩
      · exact ⟨2, rfl, fun h => n2 h.symm⟩
      · exact ⟨3, rfl, fun h => n3 h.symm⟩))
  clear n1 n2 n3
  go_enter Tryz.func13, Tryz.ntmps13
  go_wp2_with fail
  refine HM.out.mono ?_
  clear HM
  rintro e w0 ⟨b0, m, rfl, hm⟩
  have L := run_look8_none w0 65 5 63 m holdM k true _ Tryz.underlying65 Tryz.underlying5 hm (zeroHold w0) HF.out
  have HB := Lib.hid b0
  clear b0 hm
  go_wp2
  go_ret
  exact ⟨rfl, HB.out⟩

theorem obNew (k n : Int) (pl : Bool) (w : World) (hk : k = 1 ∨ k = 2 ∨ k = 3) :
    Calls Tryz.prog 13 #[.int .u8 k, .int .i64 n, .bool pl] w (ObNew w k (mostOf n) pl ([], [])) := by
  rcases hk with rfl | rfl | rfl
  · exact obNew1 n pl w
  · exact obNew2 n pl w
  · exact obNew3 n pl w

end Go.Proofs.YtniefplgijpckaaGreat
