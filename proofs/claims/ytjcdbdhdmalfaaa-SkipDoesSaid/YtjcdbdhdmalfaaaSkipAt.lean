/-
  Lists in a walk: what is known of one, or of two that know nothing of one another, between the calls; the example that every statement asks ('known'); what reaperref04.Same tells of equal lists. Conditions: lists as At says.
-/
import Derived.Test.YtjcdbdhdmalfaaaBatch
namespace Go.Proofs.Ytjcdbdhdmalfaaa
open Go.RowKit

/-- A list whose blocks are all new, and nothing old is touched. -/
def At (w : World) (F : Nat → Prop) (p : Nat) (most : Int) (bs : List It) (wr : World) : Prop := Skip wr F p most bs ∧ Below w.heap.size w wr ∧ ∀ g, F g → w.heap.size ≤ g

section
variable {w a b : World} {F G : Nat → Prop} {p q : Nat} {most mo2 : Int} {bs bs' cs : List It}
theorem At.new (h : Skip b (New w b) p most bs) (hb : Below w.heap.size w b) : At w (New w b) p most bs b := ⟨h, hb, fun _ hg => hg.1⟩
theorem At.fresh (h : At w F p most bs a) (hb : Below a.heap.size a b) : At w F p most bs b := ⟨h.1.fresh hb, h.2.1.trans (hb.mono h.2.1.size), h.2.2⟩
theorem At.drew (h : At w F p most bs a) : At w F p most bs a.drew := h.fresh (Below.refl _ _).drew
theorem At.next (h : At w F p most bs a) (d : Did F p most bs' a b) : ∃ F', At w F' p most bs' b ∧ Wrote F a b ∧ Later F F' a := by
  obtain ⟨F', s, wr, l⟩ := d
  refine ⟨F', ⟨s, h.2.1.trans (wr.below h.2.1.size h.2.2), fun g hg => ?_⟩, wr, l⟩
  rcases l g hg with h1 | h1
  · exact h.2.2 g h1
  · exact Nat.le_trans h.2.1.size h1
theorem At.lt (h : At w F p most bs a) : ∀ g, F g → g < a.heap.size := h.1.foot
theorem At.copied (h : At w F p most bs a) (s : Skip b (New a b) q mo2 cs) (hb : Below a.heap.size a b) : At w (New a b) q mo2 cs b ∧ Apart F (New a b) :=
  ⟨⟨s, h.2.1.trans (hb.mono h.2.1.size), fun _ hg => Nat.le_trans h.2.1.size hg.1⟩, New.apart h.lt⟩
/-- Old memory is none of its own. -/
theorem At.old (h : At w F p most bs a) {ao : Option Addr} {n : Nat} (ho : 0 < n → ∀ x, ao = some x → x.block < w.heap.size) : 0 < n → Off F ao := fun hp x e hf => by
  have := ho hp x e
  have := h.2.2 _ hf
  omega
/-- New memory is none of its own. -/
theorem At.young (h : At w F p most bs a) {ao : Option Addr} {n : Nat} (ho : 0 < n → ∀ x, ao = some x → a.heap.size ≤ x.block) : 0 < n → Off F ao := fun hp x e hf => by
  have := ho hp x e
  have := h.lt _ hf
  omega

theorem Later.not {w : World} {F F' : Nat → Prop} {g : Nat} (l : Later F F' w) (hn : ¬ F g) (hg : g < w.heap.size) : ¬ F' g := fun e => by
  rcases l g e with h | h
  · exact hn h
  · omega

/-- Two lists that know nothing of one another. -/
structure Two (w : World) (F G : Nat → Prop) (p q : Nat) (most mo2 : Int) (bs cs : List It) (a : World) : Prop where
  c : At w F p most bs a
  d : At w G q mo2 cs a
  ap : Apart F G

theorem Two.fresh (h : Two w F G p q most mo2 bs cs a) (hb : Below a.heap.size a b) : Two w F G p q most mo2 bs cs b := ⟨h.c.fresh hb, h.d.fresh hb, h.ap⟩
theorem Two.nextC (h : Two w F G p q most mo2 bs cs a) (d : Did F p most bs' a b) : ∃ F', Two w F' G p q most mo2 bs' cs b := by
  obtain ⟨F', k, wr, l⟩ := h.c.next d
  exact ⟨F', k, ⟨h.d.1.apart wr h.ap.symm, k.2.1, h.d.2.2⟩, l.apart h.ap h.d.lt⟩
theorem Two.nextD (h : Two w F G p q most mo2 bs cs a) (d : Did G q mo2 bs' a b) : ∃ G', Two w F G' p q most mo2 bs bs' b := by
  obtain ⟨G', k, wr, l⟩ := h.d.next d
  exact ⟨G', ⟨h.c.1.apart wr h.ap, k.2.1, h.c.2.2⟩, k, (l.apart h.ap.symm h.c.lt).symm⟩
end


/-- Numbers that are told, in new memory. -/
def ToldR (w : World) (zs : List Int) (e : Ending) (w' : World) : Prop :=
  ∃ ao cap, e = .returned (.slice ao zs.length cap) ∧ Reads .i32 w' ao zs.length zs ∧ zs.length ≤ cap ∧ (∀ a, ao = some a → w.heap.size ≤ a.block) ∧ Below w.heap.size w w'

theorem ToldL.reads {w w' : World} {zs : List Int} {e : Ending} (h : ToldL w zs e w') : ToldR w zs e w' := by
  obtain ⟨v, he, ho, hb⟩ := h
  obtain ⟨ao, cap, rfl, h1, h2, h3⟩ := reads_own ho
  exact ⟨ao, cap, he, h1, h2, h3, hb⟩

theorem levelR {w : World} {F : Nat → Prop} {p : Nat} {most : Int} {l : List It} (h : Skip w F p most l) (k : Int) :
    Calls Try.prog 19 #[.pointer (some ⟨p, 0, none⟩), .int .i64 k] w (ToldR w (lvlOf l k)) := (levelAny h k).mono fun _ _ h => h.reads
theorem itemsR {w : World} {F : Nat → Prop} {p : Nat} {most : Int} {l : List It} (h : Skip w F p most l) :
    Calls Try.prog 18 #[.pointer (some ⟨p, 0, none⟩)] w (ToldR w (l.map It.v)) := (itemsAny h).mono fun _ _ h => h.reads

theorem lit1 (w : World) (x : Int) (k : IntKind) (t : TypeId) : Reads k (w.alloc (.cells #[.int k x] t)) (some ⟨w.heap.size, 0, none⟩) 1 [x] := by
  refine ⟨rfl, fun _ => ⟨_, _, rfl, by simp, fun i hi => ?_⟩⟩
  obtain rfl : i = 0 := by omega
  simp
theorem lit2 (w : World) (x y : Int) (k : IntKind) (t : TypeId) : Reads k (w.alloc (.cells #[.int k x, .int k y] t)) (some ⟨w.heap.size, 0, none⟩) 2 [x, y] := by
  refine ⟨rfl, fun _ => ⟨_, _, rfl, by simp, fun i hi => ?_⟩⟩
  have : i = 0 ∨ i = 1 := by omega
  rcases this with rfl | rfl <;> simp

/-- An Insert, whether there is room or not. -/
def insL (most : Int) (l : List It) (t : It) : List It := if (l.length : Int) < most then insIt t l else l
theorem insertAny {w : World} {F : Nat → Prop} {p : Nat} {most : Int} {l : List It} (h : Skip w F p most l) (v hv : Int) :
    Calls Try.prog 15 #[.pointer (some ⟨p, 0, none⟩), .int .i32 v, .int .i64 hv] w fun e w' => e = .returned (.bool (decide ((l.length : Int) < most))) ∧ Did F p most (insL most l ⟨v, hOf hv⟩) w w' := by
  unfold insL
  by_cases hf : (l.length : Int) < most
  · rw [if_pos hf, decide_eq_true hf]
    exact insertOk h hf v hv
  · rw [if_neg hf, decide_eq_false hf]
    exact (insertFull h (by omega) v hv).mono fun e w' ⟨he, hw⟩ => ⟨he, by subst hw; exact h.did (Below.refl _ _)⟩

/-- Without a list nothing is put. -/
theorem batchNil (w : World) (ao : Option Addr) (n cap : Nat) (x : Value) (hn : n ≤ 1000000) :
    Calls Try.prog 17 #[.pointer none, .slice ao n cap, x] w fun e w' => e = .returned (.slice (some ⟨w.heap.size, 0, none⟩) n n) ∧ w'.heap[w.heap.size]? = some (.cells ((toldB 0 n).map Value.bool).toArray 4 (0, 0)) ∧ Below w.heap.size w w' := by
  obtain ⟨i0, hi, hz0, hz1, hz2⟩ := info_parts infoBool
  by_cases h0 : n = 0
  · subst h0
    go_enter Try.func17, Try.ntmps17
    go_wp2_with (first
      | (at_make; refine wpList_make_full _ rfl _ _ 40 rfl w.heap.size 4 i0 _ 1 Try.underlying40 hi hz0 hz1 .i64 .i64 _ _ 0 rfl rfl rfl rfl (by omega) (by simp only [maxLen]; omega) (Nat.le_refl _) ?_; intro w1 hown1 hgrow1; have HM := Lib.hid (madeBools hown1 hgrow1); clear hown1 hgrow1)
      | (go_at_call 20; refine (lenNil _).mono ?_; rintro e w' ⟨rfl, rfl⟩) | (go_at_call 25; refine (mostNil _).mono ?_; rintro e w' ⟨rfl, rfl⟩))
    go_ret
    exact ⟨rfl, HM.out⟩
  · have hp : (0 : Int) < n := by omega
    go_enter Try.func17, Try.ntmps17
    go_wp2_with (first
      | (at_make; refine wpList_make_full _ rfl _ _ 40 rfl w.heap.size 4 i0 _ 1 Try.underlying40 hi hz0 hz1 .i64 .i64 _ _ n rfl rfl rfl rfl (by rw [hz2]; omega) (by simp only [maxLen]; omega) (Nat.le_refl _) ?_; intro w1 hown1 hgrow1; have HM := Lib.hid (madeBools hown1 hgrow1); clear hown1 hgrow1)
      | (go_at_call 20; refine (lenNil _).mono ?_; rintro e w' ⟨rfl, rfl⟩) | (go_at_call 25; refine (mostNil _).mono ?_; rintro e w' ⟨rfl, rfl⟩))
    go_ret
    exact ⟨rfl, HM.out⟩

set_option maxHeartbeats 1600000 in
theorem sameEq (w : World) (a b : Option Addr) (n c d : Nat) (zs : List Int) (ha : Reads .i32 w a n zs) (hb : Reads .i32 w b n zs) (hl : n ≤ 1000) :
    Calls Try.prog 24 #[.slice a n c, .slice b n d] w fun e w' => e = .returned (.bool true) ∧ Below w.heap.size w w' := by
  have HA := Lib.hid ha
  have HB := Lib.hid hb
  clear ha hb
  go_enter Try.func24, Try.ntmps24
  go_wp2
  go_loopw [5] (fun i wr => ∃ k : Nat, k ≤ n ∧ i = .int .i64 k ∧ Below w.heap.size w wr) (fun i _ => n - (intOf i).toNat)
  case atStart => exact ⟨0, Nat.zero_le _, rfl, Below.refl _ _⟩
  case round =>
    obtain ⟨k, hk, rfl, hbe⟩ := hrel
    have HE := Lib.hid hbe
    by_cases hlt : k < n
    · obtain ⟨b1, o1, rfl, l1, h1⟩ := (HA.out.keep hbe).2 (by omega)
      obtain ⟨b2, o2, rfl, l2, h2⟩ := (HB.out.keep hbe).2 (by omega)
      have c1 := h1 k hlt
      have c2 := h2 k hlt
      have i0 : (k : Int) < n := by omega
      clear h1 h2 hbe
      generalize zs.getD k 0 = e1 at *
      go_wp2
      go_quiet (fail)
      go_wp2
      go_roundw
      case rel => exact ⟨k + 1, by omega, by go_num, below_drewN HE.out _⟩
      case measure => simp [intOf]; omega
    · clear hbe
      go_wp2
      go_ret
      exact ⟨rfl, HE.out⟩

set_option maxHeartbeats 4000000 in
theorem known (w : World) : Calls Try.prog 11 #[] w fun e w' => e = .returned (.bool true) ∧ Below w.heap.size w w' := by
  go_enter Try.func11, Try.ntmps11
  go_wp2_with fail
  refine (newAny 3 w).mono ?_
  rintro e w1 ⟨rfl, s1, bl1⟩
  rw [mostOf_self 3 (by decide) (by decide)] at s1
  have HA := Lib.hid (At.new s1 bl1)
  have C := insertOk s1 (by decide) 5 2
  clear s1 bl1
  go_wp2_with fail
  refine C.mono ?_
  clear C
  rintro e w2 ⟨rfl, d2⟩
  obtain ⟨F2, a2, _, _⟩ := HA.out.next d2
  have HA2 := Lib.hid a2
  clear d2 a2 HA
  have C := insertOk HA2.out.1 (by decide) 3 1
  go_wp2_with fail
  refine C.mono ?_
  clear C
  rintro e w3 ⟨rfl, d3⟩
  obtain ⟨F3, a3, _, _⟩ := HA2.out.next d3
  rw [show insIt ⟨3, hOf 1⟩ (insIt ⟨5, hOf 2⟩ []) = [⟨3, 1⟩, ⟨5, 2⟩] from rfl] at a3
  have HA3 := Lib.hid a3
  clear d3 a3 HA2
  have C := itemsR HA3.out.1
  rw [show ([⟨3, 1⟩, ⟨5, 2⟩] : List It).map It.v = [3, 5] from rfl] at C
  go_wp2_with fail
  refine C.mono ?_
  clear C
  rintro e w4 ⟨ao, cap, rfl, hr, _, _, bl4⟩
  have HR := Lib.hid hr
  have HA4 := Lib.hid (HA3.out.fresh bl4)
  clear hr bl4 HA3
  have C := sameEq (w4.alloc (.cells #[.int .i32 3, .int .i32 5] 21)) ao (some ⟨w4.heap.size, 0, none⟩) 2 cap 2 [3, 5] (HR.out.keep ((Below.refl _ w4).alloc (Nat.le_refl _) _)) (lit2 w4 3 5 .i32 21) (by omega)
  go_wp2_with fail
  refine C.mono ?_
  clear C
  rintro e w5 ⟨rfl, bl5⟩
  have HA5 := Lib.hid ((HA4.out.fresh ((Below.refl _ w4).alloc (Nat.le_refl _) _)).fresh bl5)
  clear bl5 HA4 HR
  have C := levelR HA5.out.1 2
  rw [show lvlOf [⟨3, 1⟩, ⟨5, 2⟩] 2 = [5] from by decide] at C
  go_wp2_with fail
  refine C.mono ?_
  clear C
  rintro e w6 ⟨ao6, cap6, rfl, hr, _, _, bl6⟩
  have HR := Lib.hid hr
  have HA6 := Lib.hid (HA5.out.fresh bl6)
  clear hr bl6 HA5
  have C := sameEq (w6.alloc (.cells #[.int .i32 5] 21)) ao6 (some ⟨w6.heap.size, 0, none⟩) 1 cap6 1 [5] (HR.out.keep ((Below.refl _ w6).alloc (Nat.le_refl _) _)) (lit1 w6 5 .i32 21) (by omega)
  go_wp2_with fail
  refine C.mono ?_
  clear C
  rintro e w7 ⟨rfl, bl7⟩
  have HA7 := Lib.hid ((HA6.out.fresh ((Below.refl _ w6).alloc (Nat.le_refl _) _)).fresh bl7)
  clear bl7 HA6 HR
  have C := mostAny HA7.out.1
  have HB := Lib.hid HA7.out.2.1
  clear HA7
  go_wp2_with fail
  refine C.mono ?_
  clear C
  rintro e w8 ⟨rfl, rfl⟩
  go_wp2
  go_ret
  exact ⟨rfl, HB.out⟩

end Go.Proofs.Ytjcdbdhdmalfaaa
