/-
  Objects in a walk: what is known of one, or of two that know nothing of one another, between the calls; lists beside them; the example that every statement asks ('known'). Conditions: objects as Ob says.
-/
import Derived.Test.YtniefplgijpckaaGreatObAsk12m
import Derived.Test.YtniefplgijpckaaGreatObCpy12m
import Derived.Test.YtniefplgijpckaaGreatBasB12
namespace Go.Proofs.YtniefplgijpckaaGreat
open Go.RowKit Go.Lib

/-- An object whose blocks are all new, and nothing old is touched. -/
def OAt (w : World) (F : Nat → Prop) (o : Nat) (k m : Int) (pl : Bool) (s : List It × List Bool) (a : World) : Prop := Ob a F o k m pl s ∧ Below w.heap.size w a ∧ ∀ g, F g → w.heap.size ≤ g
/-- A list that lies beside what is written to. -/
def Clear (F : Nat → Prop) (a : World) (ao : Option Addr) (n : Nat) : Prop := 0 < n → Off F ao ∧ ∀ x, ao = some x → x.block < a.heap.size

section
variable {w a b : World} {F F' G : Nat → Prop} {o q n : Nat} {k m k2 m2 : Int} {pl pl2 : Bool} {s s' t : List It × List Bool} {os : List (Int × Int)} {e : Ending} {ao : Option Addr} {kd : IntKind} {zs : List Int}
theorem OAt.new (hb : Below w.heap.size w a) (h : ObNew a k m pl s e b) : ∃ o F, e = .returned (.pointer (some ⟨o, 0, none⟩)) ∧ OAt w F o k m pl s b ∧ Below a.heap.size a b ∧ ∀ g, F g → a.heap.size ≤ g := by
  obtain ⟨o, he, h1, h2⟩ := h
  exact ⟨o, _, he, ⟨h1, hb.trans (h2.mono hb.size), fun g hg => Nat.le_trans hb.size hg.1⟩, h2, fun g hg => hg.1⟩
theorem OAt.fresh (h : OAt w F o k m pl s a) (hb : Below a.heap.size a b) : OAt w F o k m pl s b := ⟨h.1.fresh hb, h.2.1.trans (hb.mono h.2.1.size), h.2.2⟩
theorem OAt.drew (h : OAt w F o k m pl s a) : OAt w F o k m pl s a.drew := h.fresh (Below.refl _ _).drew
theorem OAt.lt (h : OAt w F o k m pl s a) : ∀ g, F g → g < a.heap.size := h.1.foot
theorem OAt.moved (h : OAt w F o k m pl s a) (x : Ob b F' o k m pl s') (wr : Wrote F a b) (l : Later F F' a) : OAt w F' o k m pl s' b := by
  refine ⟨x, h.2.1.trans (wr.below h.2.1.size h.2.2), fun g hg => ?_⟩
  rcases l g hg with h1 | h1
  · exact h.2.2 g h1
  · exact Nat.le_trans h.2.1.size h1
theorem OAt.did (h : OAt w F o k m pl s a) (d : DidB F o k m pl s' a b) : ∃ F', OAt w F' o k m pl s' b ∧ Wrote F a b ∧ Later F F' a := by
  obtain ⟨F', x, wr, l⟩ := d
  exact ⟨F', h.moved x wr l, wr, l⟩
/-- Behind a batch. -/
theorem OAt.post (h : OAt w F o k m pl s a) (p : DoPost a F o k m pl s os e b) : ∃ g F', e = .returned (.slice (some ⟨g, 0, none⟩) os.length os.length) ∧ RRow b g (batT k m (vals s.1) os) ∧ a.heap.size ≤ g ∧ OAt w F' o k m pl (objS k m s os) b ∧ ¬ F' g ∧ Wrote F a b ∧ Later F F' a := by
  obtain ⟨g, F', h1, h2, h3, h4, h5, h6, h7⟩ := p
  exact ⟨g, F', h1, h2, h3, h.moved h4 h6 h7, h5, h6, h7⟩
/-- Behind another one's call. -/
theorem OAt.beside (h : OAt w F o k m pl s a) (wr : Wrote G a b) (ap : Apart F G) (hG : ∀ g, G g → w.heap.size ≤ g) : OAt w F o k m pl s b := ⟨h.1.apart wr ap, h.2.1.trans (wr.below h.2.1.size hG), h.2.2⟩
/-- What is old, or younger, is none of its own. -/
theorem OAt.old (h : OAt w F o k m pl s a) (ho : 0 < n → ∀ x, ao = some x → x.block < w.heap.size ∨ a.heap.size ≤ x.block) : 0 < n → Off F ao := fun hp x e hf => by
  have h1 := h.2.2 _ hf
  have h2 := h.lt _ hf
  rcases ho hp x e with h3 | h3 <;> omega
theorem opsOld (h : OpsAt w ao n os) : 0 < n → ∀ x, ao = some x → x.block < w.heap.size := fun hp x hx => by
  obtain ⟨b', off, e', l', _⟩ := h.2 hp
  rw [e'] at hx
  injection hx with hx
  subst hx
  exact l'
theorem readsOld (h : Reads kd w ao n zs) : 0 < n → ∀ x, ao = some x → x.block < w.heap.size := fun hp x hx => by
  obtain ⟨b', off, e', l', _⟩ := h.2 hp
  rw [e'] at hx
  injection hx with hx
  subst hx
  exact l'
theorem Clear.fresh (h : Clear F a ao n) (hb : Below a.heap.size a b) : Clear F b ao n := fun hp => ⟨(h hp).1, fun x hx => Nat.lt_of_lt_of_le ((h hp).2 x hx) hb.size⟩
theorem Clear.next (h : Clear F a ao n) (wr : Wrote F a b) (l : Later F F' a) : Clear F' b ao n := fun hp => ⟨fun x hx => l.not ((h hp).1 x hx) ((h hp).2 x hx), fun x hx => Nat.lt_of_lt_of_le ((h hp).2 x hx) wr.size⟩
theorem Clear.off (h : Clear F a ao n) : 0 < n → Off F ao := fun hp => (h hp).1
theorem Clear.reads (h : Clear F a ao n) (r : Reads kd a ao n zs) (wr : Wrote F a b) : Reads kd b ao n zs := by
  rcases Nat.eq_zero_or_pos n with h0 | h0
  · subst h0; exact ⟨r.1, fun h => by omega⟩
  · exact r.off (fun x hx hg => (h h0).1 x hx hg) wr
theorem Clear.ops (h : Clear F a ao n) (r : OpsAt a ao n os) (wr : Wrote F a b) : OpsAt b ao n os := by
  rcases Nat.eq_zero_or_pos n with h0 | h0
  · subst h0; exact ⟨r.1, fun h => by omega⟩
  · exact r.off (fun x hx hg => (h h0).1 x hx hg) wr
/-- New numbers lie beside an object that was there. -/
theorem OAt.clear (h : OAt w F o k m pl s a) (r : Reads kd b ao n zs) (hn : ∀ x, ao = some x → a.heap.size ≤ x.block) : Clear F b ao n := fun hp => ⟨fun x hx hf => by have := hn x hx; have := h.lt _ hf; omega, readsOld r hp⟩
theorem OAt.clearO (h : OAt w F o k m pl s a) (r : OpsAt b ao n os) (hn : ∀ x, ao = some x → a.heap.size ≤ x.block) : Clear F b ao n := fun hp => ⟨fun x hx hf => by have := hn x hx; have := h.lt _ hf; omega, opsOld r hp⟩
/-- A row of answers that lies beside an object. -/
theorem row_kept {g : Nat} {rs : List (Int × Int)} (r : RRow a g rs) (hg : ¬ F g) (wr : Wrote F a b) : RRow b g rs := (wr.block g r.lt hg).trans r

/-- Two objects that know nothing of one another. -/
structure Two (w : World) (F G : Nat → Prop) (o q : Nat) (k m k2 m2 : Int) (pl pl2 : Bool) (s t : List It × List Bool) (a : World) : Prop where
  c : OAt w F o k m pl s a
  d : OAt w G q k2 m2 pl2 t a
  ap : Apart F G
theorem Two.fresh (h : Two w F G o q k m k2 m2 pl pl2 s t a) (hb : Below a.heap.size a b) : Two w F G o q k m k2 m2 pl pl2 s t b := ⟨h.c.fresh hb, h.d.fresh hb, h.ap⟩
theorem Two.swap (h : Two w F G o q k m k2 m2 pl pl2 s t a) : Two w G F q o k2 m2 k m pl2 pl t s a := ⟨h.d, h.c, h.ap.symm⟩
theorem Two.nextC (h : Two w F G o q k m k2 m2 pl pl2 s t a) (x : OAt w F' o k m pl s' b) (wr : Wrote F a b) (l : Later F F' a) : Two w F' G o q k m k2 m2 pl pl2 s' t b := ⟨x, h.d.beside wr h.ap.symm h.c.2.2, l.apart h.ap h.d.lt⟩
theorem Two.nextD (h : Two w F G o q k m k2 m2 pl pl2 s t a) {t' : List It × List Bool} (x : OAt w F' q k2 m2 pl2 t' b) (wr : Wrote G a b) (l : Later G F' a) : Two w F F' o q k m k2 m2 pl pl2 s t' b := ⟨h.c.beside wr h.ap h.d.2.2, x, (l.apart h.ap.symm h.c.lt).symm⟩
/-- One that is made beside another one. -/
theorem OAt.two (h : OAt w F o k m pl s a) (x : OAt w G q k2 m2 pl2 t b) (hb : Below a.heap.size a b) (hG : ∀ g, G g → a.heap.size ≤ g) : Two w F G o q k m k2 m2 pl pl2 s t b := ⟨h.fresh hb, x, fun g h1 h2 => by have := h.lt g h1; have := hG g h2; omega⟩
end

set_option maxRecDepth 100000 in
set_option maxHeartbeats 4000000 in
theorem known (w : World) : Calls Tryz.prog 10 #[] w fun e w' => e = .returned (.bool true) ∧ Below w.heap.size w w' := by
  have eT : batT 1 1 [] [(1, 5), (1, 6), (2, 0)] = [(1, 0), (3, 0), (2, 5)] := by decide
  go_enter Tryz.func10, Tryz.ntmps10
  go_wp2_with fail
  refine (obNew 1 1 false w (.inl rfl)).mono ?_
  rintro e w1 hn
  rw [mostOf_self 1 (by decide) (by decide)] at hn
  obtain ⟨o, F, rfl, P, _, _⟩ := OAt.new (Below.refl _ w) hn
  have ba : Below w1.heap.size w1 (w1.alloc (.cells #[.int .u8 1, .int .i32 5, .int .u8 1, .int .i32 6, .int .u8 2, .int .i32 0] 49)) := (Below.refl _ _).alloc (Nat.le_refl _) _
  have P3 := P.fresh ba
  have C := obDo P3.1 (some ⟨w1.heap.size, 0, none⟩) 3 (opsLit3 w1 1 5 1 6 2 0) (P.old (ao := some ⟨w1.heap.size, 0, none⟩) (n := 3) (fun _ x hx => by injection hx with hx; subst hx; exact .inr (Nat.le_refl _))) (fun o ho => by simp at ho; rcases ho with rfl | rfl | rfl <;> (refine ⟨⟨?_, ?_⟩, ⟨?_, ?_⟩⟩ <;> decide)) (by omega)
  have HP := Lib.hid P3
  clear P P3 hn ba
  go_wp2_with fail
  refine C.mono ?_
  clear C
  rintro e w3 hp
  obtain ⟨g, F', rfl, r3, _, P3, _⟩ := HP.out.post hp
  have e1 : batT 1 1 (vals ([] : List It)) [(1, 5), (1, 6), (2, 0)] = [(1, 0), (3, 0), (2, 5)] := eT
  rw [e1] at r3
  have HB := Lib.hid P3.2.1
  have hops := r3.ops
  have C := toldEq (w3.alloc (.cells #[.int .u8 1, .int .i32 0, .int .u8 3, .int .i32 0, .int .u8 2, .int .i32 5] 53)) (some ⟨g, 0, none⟩) (some ⟨w3.heap.size, 0, none⟩) 3 3 3 _ (hops.keep ((Below.refl _ w3).alloc (Nat.le_refl _) _)) (resLit3 w3 1 0 3 0 2 5) (by omega)
  clear hp HP P3 r3 hops e1 eT
  go_wp2_with fail
  refine C.mono ?_
  clear C
  rintro e w4 ⟨rfl, b4⟩
  have HB4 := Lib.hid (show Below w.heap.size w w4 from (HB.out.alloc HB.out.size _).trans (b4.mono (by have := HB.out.size; simp; omega)))
  clear b4 HB
  go_wp2_with fail
  refine (obNone 4 1 false w4 (by decide) (by decide) (by decide)).mono ?_
  rintro e w5 ⟨rfl, b5⟩
  have HB5 := Lib.hid (HB4.out.trans (b5.mono HB4.out.size))
  clear b5 HB4
  go_wp2_with fail
  refine (obNone 0 1 true w5 (by decide) (by decide) (by decide)).mono ?_
  rintro e w6 ⟨rfl, b6⟩
  have HB6 := Lib.hid (HB5.out.trans (b6.mono HB5.out.size))
  clear b6 HB5
  go_wp2
  go_ret
  exact ⟨rfl, HB6.out⟩

end Go.Proofs.YtniefplgijpckaaGreat
