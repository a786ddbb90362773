/-
  What a list of package skip is in the model's world, and what New, Len, Most and Insert do, at every list and at nil. Conditions: a list as Skip says.
-/
import Derived.Test.YtjcdbdhdmalfaaaSkipPut
namespace Go.Proofs.Ytjcdbdhdmalfaaa
open Go.RowKit

/-- An item: its value, its height. -/
structure It where
  v : Int
  h : Nat

def itsOf (ns : List Nd) : List It := ns.map fun n => ⟨n.v, n.h⟩

/-- An item stands behind all that are it or less. -/
def insIt (t : It) (l : List It) : List It := l.takeWhile (fun i => decide (i.v ≤ t.v)) ++ t :: l.dropWhile (fun i => decide (i.v ≤ t.v))

theorem insIt_length (t : It) (l : List It) : (insIt t l).length = l.length + 1 := by
  unfold insIt
  have := List.takeWhile_append_dropWhile (p := fun i : It => decide (i.v ≤ t.v)) (l := l)
  have h2 := congrArg List.length this
  simp only [List.length_append, List.length_cons] at *
  omega

def Rise (l : List Int) : Prop := l.Pairwise (· ≤ ·)

theorem drop_gt : ∀ {l : List Nd} {v : Int}, Rise (l.map Nd.v) → ∀ n ∈ l.dropWhile (fun n => decide (n.v ≤ v)), v < n.v
  | [], _, _, n, hn => by simp at hn
  | c :: cs, v, h, n, hn => by
    simp only [Rise, List.map_cons, List.pairwise_cons] at h
    by_cases hc : c.v ≤ v
    · rw [List.dropWhile_cons_of_pos (by simpa using hc)] at hn
      exact drop_gt h.2 n hn
    · rw [List.dropWhile_cons_of_neg (by simpa using hc)] at hn
      rcases List.mem_cons.1 hn with rfl | hn
      · omega
      · have := h.1 n.v (List.mem_map_of_mem hn); omega
theorem take_le : ∀ {l : List Nd} {v : Int}, ∀ n ∈ l.takeWhile (fun n => decide (n.v ≤ v)), n.v ≤ v
  | [], _, n, hn => by simp at hn
  | c :: cs, v, n, hn => by
    by_cases hc : c.v ≤ v
    · rw [List.takeWhile_cons_of_pos (by simpa using hc)] at hn
      rcases List.mem_cons.1 hn with rfl | hn
      · exact hc
      · exact take_le n hn
    · rw [List.takeWhile_cons_of_neg (by simpa using hc)] at hn
      simp at hn

theorem its_take (v : Int) (l : List Nd) : itsOf (l.takeWhile (fun n => decide (n.v ≤ v))) = (itsOf l).takeWhile (fun i => decide (i.v ≤ v)) := by
  unfold itsOf; rw [List.takeWhile_map]; rfl
theorem its_drop (v : Int) (l : List Nd) : itsOf (l.dropWhile (fun n => decide (n.v ≤ v))) = (itsOf l).dropWhile (fun i => decide (i.v ≤ v)) := by
  unfold itsOf; rw [List.dropWhile_map]; rfl

theorem rise_ins {A B : List Nd} {t : Nd} (h : Rise ((A ++ B).map Nd.v)) (hA : ∀ n ∈ A, n.v ≤ t.v) (hB : ∀ n ∈ B, t.v < n.v) : Rise ((A ++ t :: B).map Nd.v) := by
  unfold Rise at *
  simp only [List.map_append, List.map_cons, List.pairwise_append, List.pairwise_cons, List.mem_map, List.mem_cons] at *
  obtain ⟨h1, h2, h3⟩ := h
  refine ⟨h1, ⟨?_, h2⟩, ?_⟩
  · rintro _ ⟨n, hn, rfl⟩; have := hB n hn; omega
  · rintro _ ⟨n, hn, rfl⟩ b hb
    rcases hb with rfl | ⟨m, hm, rfl⟩
    · exact hA n hn
    · exact h3 _ ⟨n, hn, rfl⟩ _ ⟨m, hm, rfl⟩

/-- A list at block p, its towers named. -/
structure Skp (w : World) (p : Nat) (most : Int) (ns : List Nd) : Prop where
  bod : Bod w p ns.length most ns
  so : Rise (ns.map Nd.v)
  len : (ns.length : Int) ≤ most
  mo : 0 ≤ most ∧ most ≤ 1000

/-- A list whose blocks are all of F. -/
def Skip (w : World) (F : Nat → Prop) (p : Nat) (most : Int) (l : List It) : Prop :=
  ∃ ns, Skp w p most ns ∧ itsOf ns = l ∧ (∀ g, InF p ns g → F g) ∧ ∀ g, F g → g < w.heap.size

/-- What a call on a list leaves. -/
def Did (F : Nat → Prop) (p : Nat) (most : Int) (l : List It) (w w' : World) : Prop := ∃ F', Skip w' F' p most l ∧ Wrote F w w' ∧ Later F F' w

section
variable {w w' : World} {F G : Nat → Prop} {p : Nat} {most : Int} {l : List It}
theorem Skp.keep {ns : List Nd} (h : Skp w p most ns) (hb : ∀ g, InF p ns g → w'.heap[g]? = w.heap[g]?) : Skp w' p most ns := ⟨h.bod.keep hb, h.so, h.len, h.mo⟩
theorem Skip.mo (h : Skip w F p most l) : 0 ≤ most ∧ most ≤ 1000 := by obtain ⟨ns, m, _⟩ := h; exact m.mo
theorem Skip.len (h : Skip w F p most l) : (l.length : Int) ≤ most := by obtain ⟨ns, m, rfl, _⟩ := h; have := m.len; simpa [itsOf] using this
theorem Skip.foot (h : Skip w F p most l) : ∀ g, F g → g < w.heap.size := by obtain ⟨ns, _, _, _, h4⟩ := h; exact h4
theorem Skip.in (h : Skip w F p most l) : F p := by obtain ⟨ns, _, _, h3, _⟩ := h; exact h3 p (by simp [InF])
theorem Skip.so (h : Skip w F p most l) : Rise (l.map It.v) := by
  obtain ⟨ns, m, rfl, _⟩ := h
  have := m.so
  simpa [itsOf, Rise, Function.comp_def] using this
theorem Skip.hs (h : Skip w F p most l) : ∀ i ∈ l, 1 ≤ i.h ∧ i.h ≤ 8 := by
  obtain ⟨ns, m, rfl, _⟩ := h
  intro i hi
  obtain ⟨n, hn, rfl⟩ := List.mem_map.1 hi
  exact m.bod.hs n hn

/-- New memory, and what others write, is none of a list's. -/
theorem Skip.apart (h : Skip w F p most l) (hw : Wrote G w w') (ha : Apart F G) : Skip w' F p most l := by
  obtain ⟨ns, m, h2, h3, h4⟩ := h
  exact ⟨ns, m.keep fun g hg => hw.block g (h4 g (h3 g hg)) (ha g (h3 g hg)), h2, h3, fun g hg => Nat.lt_of_lt_of_le (h4 g hg) hw.size⟩
theorem Skip.fresh (h : Skip w F p most l) (hb : Below w.heap.size w w') : Skip w' F p most l := h.apart (Wrote.of hb (fun _ => False)) (fun _ _ h => h)
theorem Skip.drew (h : Skip w F p most l) : Skip w.drew F p most l := h.fresh (Below.refl _ _).drew
theorem Skip.did (h : Skip w F p most l) (hb : Below w.heap.size w w') : Did F p most l w w' := ⟨F, h.fresh hb, Wrote.of hb F, Later.refl _ _⟩
theorem Did.trans {a b c : World} {l' : List It} (h : Wrote F a b) (hl : Later F G a) (d : Did G p most l' b c) : Did F p most l' a c := by
  obtain ⟨F', h1, h2, h3⟩ := d
  exact ⟨F', h1, h.step hl h2, hl.trans h3 h.size⟩
end

/-- The blocks that are new. -/
def New (w w' : World) : Nat → Prop := fun g => w.heap.size ≤ g ∧ g < w'.heap.size
theorem New.apart {w w' : World} {F : Nat → Prop} (hF : ∀ g, F g → g < w.heap.size) : Apart F (New w w') := fun g h1 h2 => by have := hF g h1; have := h2.1; omega

/-- How many there may be: from 0 to 1000, whichever is nearest. -/
def mostOf (n : Int) : Int := if n < 0 then 0 else if 1000 < n then 1000 else n
theorem mostOf_in (n : Int) : 0 ≤ mostOf n ∧ mostOf n ≤ 1000 := by unfold mostOf; split <;> (try split) <;> omega
theorem mostOf_self (n : Int) (h0 : 0 ≤ n) (h1 : n ≤ 1000) : mostOf n = n := by unfold mostOf; rw [if_neg (by omega), if_neg (by omega)]

def newObj (n : Int) : Obj := .cells #[.int .i32 0, .int .i64 0, .pointer none, .pointer none, .pointer none, .pointer none, .pointer none, .pointer none, .pointer none, .pointer none, .int .i64 0, .int .i64 n] 66

theorem newSkip (w : World) (n : Int) (h0 : 0 ≤ n) (h1 : n ≤ 1000) : Skip (w.alloc (newObj n)) (New w (w.alloc (newObj n))) w.heap.size n [] := by
  have hb : (w.alloc (newObj n)).heap[w.heap.size]? = some (newObj n) := World.alloc_heap_new w _
  refine ⟨[], ⟨⟨⟨_, hb, rfl, rfl, rfl⟩, by simp, fun j hj => ?_, by simp [blks], by simp⟩, by simp [Rise], by simpa using h0, h0, h1⟩, rfl, fun g hg => ?_, fun g hg => hg.2⟩
  · show World.cell? _ _ = _
    generalize w.alloc (newObj n) = W at *
    unfold newObj at hb
    have : j = 0 ∨ j = 1 ∨ j = 2 ∨ j = 3 ∨ j = 4 ∨ j = 5 ∨ j = 6 ∨ j = 7 := by omega
    rcases this with rfl | rfl | rfl | rfl | rfl | rfl | rfl | rfl <;> simp [World.cell?, hb]
  · have : g = w.heap.size := by simpa [InF, blks] using hg
    subst this
    exact ⟨Nat.le_refl _, by simp⟩

set_option maxHeartbeats 1600000 in
theorem newAny (n : Int) (w : World) :
    Calls Try.prog 14 #[.int .i64 n] w fun e w' => e = .returned (.pointer (some ⟨w.heap.size, 0, none⟩)) ∧ Skip w' (New w w') w.heap.size (mostOf n) [] ∧ Below w.heap.size w w' := by
  rcases (show n < 0 ∨ 1000 < n ∨ (0 ≤ n ∧ n ≤ 1000) from by omega) with h | h | h
  · have HE := Lib.hid (show mostOf n = 0 by unfold mostOf; rw [if_pos h])
    go_enter Try.func14, Try.ntmps14
    go_wp2
    go_ret
    rw [HE.out]
    exact ⟨rfl, newSkip w 0 (by omega) (by omega), (Below.refl _ _).alloc (Nat.le_refl _) _⟩
  · have HE := Lib.hid (show mostOf n = 1000 by unfold mostOf; rw [if_neg (by omega), if_pos h])
    have h2 : ¬ n < 0 := by omega
    go_enter Try.func14, Try.ntmps14
    go_wp2
    go_ret
    rw [HE.out]
    exact ⟨rfl, newSkip w 1000 (by omega) (by omega), (Below.refl _ _).alloc (Nat.le_refl _) _⟩
  · have HE := Lib.hid (mostOf_self n h.1 h.2)
    obtain ⟨h0, h1⟩ := h
    go_enter Try.func14, Try.ntmps14
    go_wp2
    all_goals
      go_ret
      rw [HE.out]
      exact ⟨rfl, newSkip w n (by omega) (by omega), (Below.refl _ _).alloc (Nat.le_refl _) _⟩

section
variable {w : World} {F : Nat → Prop} {p : Nat} {most : Int} {l : List It}

theorem lenAny (h : Skip w F p most l) :
    Calls Try.prog 20 #[.pointer (some ⟨p, 0, none⟩)] w fun e w' => e = .returned (.int .i64 l.length) ∧ w = w' := by
  obtain ⟨ns, m, rfl, _⟩ := h
  have c := m.bod.hd.c10
  rw [show ns.length = (itsOf ns).length by simp [itsOf]] at c
  clear m
  go_enter Try.func20, Try.ntmps20
  go_wp2
  go_ret
  exact ⟨rfl, rfl⟩

theorem lenNil (w : World) :
    Calls Try.prog 20 #[.pointer none] w fun e w' => e = .returned (.int .i64 0) ∧ w = w' := by
  go_enter Try.func20, Try.ntmps20
  go_wp2
  go_ret
  exact ⟨rfl, rfl⟩

theorem mostAny (h : Skip w F p most l) :
    Calls Try.prog 25 #[.pointer (some ⟨p, 0, none⟩)] w fun e w' => e = .returned (.int .i64 most) ∧ w = w' := by
  obtain ⟨ns, m, rfl, _⟩ := h
  have c := m.bod.hd.c11
  clear m
  go_enter Try.func25, Try.ntmps25
  go_wp2
  go_ret
  exact ⟨rfl, rfl⟩

theorem mostNil (w : World) :
    Calls Try.prog 25 #[.pointer none] w fun e w' => e = .returned (.int .i64 0) ∧ w = w' := by
  go_enter Try.func25, Try.ntmps25
  go_wp2
  go_ret
  exact ⟨rfl, rfl⟩

theorem insertNil (w : World) (v hv : Int) :
    Calls Try.prog 15 #[.pointer none, .int .i32 v, .int .i64 hv] w fun e w' => e = .returned (.bool false) ∧ w = w' := by
  go_enter Try.func15, Try.ntmps15
  go_wp2_with (first | (go_at_call 20; refine (lenNil _).mono ?_; rintro e w' ⟨rfl, rfl⟩) | (go_at_call 25; refine (mostNil _).mono ?_; rintro e w' ⟨rfl, rfl⟩))
  go_ret
  exact ⟨rfl, rfl⟩

theorem insertFull (h : Skip w F p most l) (hf : most ≤ l.length) (v hv : Int) :
    Calls Try.prog 15 #[.pointer (some ⟨p, 0, none⟩), .int .i32 v, .int .i64 hv] w fun e w' => e = .returned (.bool false) ∧ w = w' := by
  have L := lenAny h
  have M := mostAny h
  have hd : ¬ (l.length : Int) < most := by omega
  clear h
  generalize l.length = n at *
  go_enter Try.func15, Try.ntmps15
  go_wp2_with (first | (go_at_call 20; refine L.mono ?_; rintro e w' ⟨rfl, rfl⟩) | (go_at_call 25; refine M.mono ?_; rintro e w' ⟨rfl, rfl⟩))
  go_ret
  exact ⟨rfl, rfl⟩

/-- What a list is behind a put. -/
theorem putDid {w w1 w2 : World} {ns : List Nd} {e : Ending} {v : Int} {hh : Nat} (hi : 1 ≤ hh ∧ hh ≤ 8) (m : Skp w p most ns) (hF : ∀ g, InF p ns g → F g) (h4 : ∀ g, F g → g < w.heap.size) (hl : (ns.length : Int) < most) (hb : Below w.heap.size w w1)
    (hp : PutPost w1 p ns.length most (ns.takeWhile (fun n => decide (n.v ≤ v))) (ns.dropWhile (fun n => decide (n.v ≤ v))) v hh e w2) : Did F p most (insIt ⟨v, hh⟩ (itsOf ns)) w w2 := by
  obtain ⟨tb, h1, _, h2, h3⟩ := hp
  have hn : ns.takeWhile (fun n => decide (n.v ≤ v)) ++ ns.dropWhile (fun n => decide (n.v ≤ v)) = ns := List.takeWhile_append_dropWhile
  have hA := take_le (l := ns) (v := v)
  have hB := drop_gt (v := v) m.so
  have hT := its_take v ns
  have hD := its_drop v ns
  generalize ns.takeWhile (fun n => decide (n.v ≤ v)) = A at *
  generalize ns.dropWhile (fun n => decide (n.v ≤ v)) = B at *
  subst hn
  have htb : tb < w2.heap.size := (h2.tow ⟨tb, v, hh⟩ (by simp)).lt
  have hs := hb.size
  have hs2 := h3.size
  refine ⟨fun g => F g ∨ New w w2 g, ⟨A ++ ⟨tb, v, hh⟩ :: B, ⟨?_, rise_ins m.so hA hB, by simp at hl ⊢; omega, m.mo⟩, ?_, fun g hg => ?_, fun g hg => ?_⟩, (Wrote.of hb F).trans ⟨h3.os, h3.tape, h3.output, h3.size, fun k hk hF' => h3.block k hk fun e => hF' (hF k e)⟩, fun g hg => ?_⟩
  · rw [show (((A ++ ⟨tb, v, hh⟩ :: B).length : Nat) : Int) = (((A ++ B).length : Nat) : Int) + 1 by simp; omega]; exact h2
  · unfold insIt
    rw [← hT, ← hD]
    simp [itsOf]
  · simp only [InF, blks, List.map_append, List.map_cons, List.mem_append, List.mem_cons] at hg
    rcases hg with hg | hg | hg | hg
    · exact .inl (hF g (by simp [InF, hg]))
    · exact .inl (hF g (by simp only [InF, blks, List.map_append, List.mem_append, List.mem_cons]; exact .inr (.inl hg)))
    · exact .inr ⟨by omega, by omega⟩
    · exact .inl (hF g (by simp only [InF, blks, List.map_append, List.mem_append, List.mem_cons]; exact .inr (.inr hg)))
  · rcases hg with hg | hg
    · have := h4 g hg; omega
    · exact hg.2
  · rcases hg with hg | hg
    · exact .inl hg
    · exact .inr hg.1

set_option maxRecDepth 100000 in
set_option maxHeartbeats 2000000 in
theorem insertOk (h : Skip w F p most l) (hf : (l.length : Int) < most) (v hv : Int) :
    Calls Try.prog 15 #[.pointer (some ⟨p, 0, none⟩), .int .i32 v, .int .i64 hv] w fun e w' => e = .returned (.bool true) ∧ Did F p most (insIt ⟨v, hOf hv⟩ l) w w' := by
  have L := lenAny h
  have M := mostAny h
  obtain ⟨ns, m, rfl, h3, h4⟩ := h
  have hl : (ns.length : Int) < most := by simpa [itsOf] using hf
  have HM := Lib.hid (And.intro m (And.intro h3 (And.intro h4 hl)))
  have HP : Hid (∀ W, Below w.heap.size w W → Calls Try.prog 29 #[.pointer (some ⟨p, 0, none⟩), (.agg #[.pointer (some ⟨(pos p []) 0, 0, none⟩), .pointer (some ⟨(pos p []) 1, 0, none⟩), .pointer (some ⟨(pos p []) 2, 0, none⟩), .pointer (some ⟨(pos p []) 3, 0, none⟩), .pointer (some ⟨(pos p []) 4, 0, none⟩), .pointer (some ⟨(pos p []) 5, 0, none⟩), .pointer (some ⟨(pos p []) 6, 0, none⟩), .pointer (some ⟨(pos p []) 7, 0, none⟩)]), .int .i32 v, .int .i64 hv] W (PutPost W p ns.length most (ns.takeWhile (fun n => decide (n.v ≤ v))) (ns.dropWhile (fun n => decide (n.v ≤ v))) v (hOf hv))) := Lib.hid fun W hW => by
    have hml := m.mo
    refine putAny (by rw [List.takeWhile_append_dropWhile]; exact m.bod.below hW) v hv take_le (drop_gt m.so) (pos p []) ⟨fun j _ => ?_, fun j h1 h2 => by omega⟩ (by omega) (by omega)
    show p ∈ _
    simp
  clear m h3 h4 hl
  generalize (itsOf ns).length = n at *
  go_enter Try.func15, Try.ntmps15
  go_wp2_with (first | (go_at_call 20; refine L.mono ?_; rintro e w' ⟨rfl, rfl⟩) | (go_at_call 25; refine M.mono ?_; rintro e w' ⟨rfl, rfl⟩) | (go_at_call 30; refine (startAny _ _).mono ?_; rintro e w1 ⟨rfl, hb1⟩; have HB1 := Lib.hid hb1; clear hb1))
  refine (HP.out _ HB1.out).mono ?_
  intro e w2 hp
  have HQ := Lib.hid (putDid (hOf_in hv) HM.out.1 HM.out.2.1 HM.out.2.2.1 HM.out.2.2.2 HB1.out hp)
  obtain ⟨tb, _, he, _⟩ := hp
  subst he
  go_wp2
  go_ret
  exact ⟨rfl, HQ.out⟩
end

end Go.Proofs.Ytjcdbdhdmalfaaa
