/-
  Sorting by keys in plain lists: the order, what is sorted and a permutation, what merging two sorted lists comes to, blocks. Conditions: none; no Go function is looked at here. A row of ints of one's own: what it holds, what becomes of it when a cell is written. Conditions: none; no Go function is looked at here. cmp.Compare at int32, and the comparison that sortBy hands to the sort. Conditions: operations that lie in memory, a variable that holds them.
-/
import Derived.Test.YtniefplgijpckaaGreatBasA12
import Derived.BigRegion
import Derived.Laws.EntriesVeiled
namespace Go.Proofs.YtniefplgijpckaaGreat

/-- i may stand ahead of j: by their keys, and of one key by themselves. -/
def kLe (key : Int → Int) (i j : Int) : Prop := key i < key j ∨ (key i = key j ∧ i ≤ j)
def Srt (key : Int → Int) (l : List Int) : Prop := l.Pairwise (kLe key)

section
variable {key : Int → Int}
theorem kLe.refl (i : Int) : kLe key i i := .inr ⟨rfl, Int.le_refl _⟩
theorem kLe.trans {i j k : Int} (h : kLe key i j) (g : kLe key j k) : kLe key i k := by unfold kLe at *; omega
theorem kLe.antisymm {i j : Int} (h : kLe key i j) (g : kLe key j i) : i = j := by unfold kLe at *; omega
theorem kLe.of_not {i j : Int} (h : ¬ key j < key i) (g : i ≤ j) : kLe key i j := by unfold kLe; omega
theorem kLe.of_lt {i j : Int} (h : key i < key j) : kLe key i j := .inl h

/-- One list is sorted, whichever way it comes about. -/
theorem srt_unique {a b : List Int} (ha : Srt key a) (hb : Srt key b) (h : a.Perm b) : a = b :=
  List.Perm.eq_of_pairwise (fun _ _ _ _ h1 h2 => h1.antisymm h2) ha hb h

theorem split_at (l : List Int) {k : Nat} (hk : k < l.length) : l = l.take k ++ l.getD k 0 :: l.drop (k + 1) := by
  have e : l.getD k 0 = l[k] := by simp [List.getD, hk]
  rw [e, ← List.drop_eq_getElem_cons hk, List.take_append_drop]

theorem Srt.take_le {l : List Int} (h : Srt key l) {k : Nat} (hk : k < l.length) : ∀ y ∈ l.take (k + 1), kLe key y (l.getD k 0) := by
  intro y hy
  have e := split_at l hk
  unfold Srt at h
  rw [e, List.pairwise_append] at h
  rw [List.take_succ_eq_append_getElem hk] at hy
  rcases List.mem_append.1 hy with h1 | h1
  · exact h.2.2 y h1 _ List.mem_cons_self
  · have : y = l.getD k 0 := by simpa [List.getD, hk] using h1
    rw [this]; exact .refl _
theorem Srt.drop_ge {l : List Int} (h : Srt key l) {k : Nat} (hk : k < l.length) : ∀ y ∈ l.drop k, kLe key (l.getD k 0) y := by
  intro y hy
  have e := split_at l hk
  unfold Srt at h
  rw [e, List.pairwise_append] at h
  rw [List.drop_eq_getElem_cons hk] at hy
  rcases List.mem_cons.1 hy with h1 | h1
  · have : y = l.getD k 0 := by simpa [List.getD, hk] using h1
    rw [this]; exact .refl _
  · exact (List.pairwise_cons.1 h.2.1).1 y h1

/-- All of a list's front against all of another one's rest. -/
theorem Srt.cross {l r : List Int} (hl : Srt key l) (hr : Srt key r) {s e : Nat} (hs : s ≤ l.length) (he : e ≤ r.length)
    (h : s = 0 ∨ e = r.length ∨ kLe key (l.getD (s - 1) 0) (r.getD e 0)) : ∀ x ∈ l.take s, ∀ y ∈ r.drop e, kLe key x y := by
  intro x hx y hy
  rcases h with h | h | h
  · subst h; simp at hx
  · subst h; simp at hy
  · rcases Nat.eq_zero_or_pos s with h0 | h0
    · subst h0; simp at hx
    · rcases Nat.lt_or_ge e r.length with h1 | h1
      · have a := hl.take_le (k := s - 1) (by omega) x (by rw [show s - 1 + 1 = s by omega]; exact hx)
        exact (a.trans h).trans (hr.drop_ge h1 y hy)
      · rw [List.drop_eq_nil_of_le h1] at hy; simp at hy

theorem Srt.append {a b : List Int} (ha : Srt key a) (hb : Srt key b) (h : ∀ x ∈ a, ∀ y ∈ b, kLe key x y) : Srt key (a ++ b) := List.pairwise_append.2 ⟨ha, hb, h⟩
theorem Srt.take {l : List Int} (h : Srt key l) (k : Nat) : Srt key (l.take k) := List.Pairwise.take h
theorem Srt.drop {l : List Int} (h : Srt key l) (k : Nat) : Srt key (l.drop k) := List.Pairwise.drop h
theorem srt_one (x : Int) : Srt key [x] := List.pairwise_singleton _ _

/-- Two halves that were merged, each for itself. -/
theorem merged_halves {l r m1 m2 : List Int} {s e : Nat} (hl : Srt key l) (hr : Srt key r) (hs : s ≤ l.length) (he : e ≤ r.length)
    (h1 : s = 0 ∨ e = r.length ∨ kLe key (l.getD (s - 1) 0) (r.getD e 0)) (h2 : e = 0 ∨ s = l.length ∨ kLe key (r.getD (e - 1) 0) (l.getD s 0))
    (p1 : m1.Perm (l.take s ++ r.take e)) (p2 : m2.Perm (l.drop s ++ r.drop e)) (s1 : Srt key m1) (s2 : Srt key m2) : (m1 ++ m2).Perm (l ++ r) ∧ Srt key (m1 ++ m2) := by
  refine ⟨?_, s1.append s2 fun x hx y hy => ?_⟩
  · have e1 : (l.take s ++ r.take e ++ (l.drop s ++ r.drop e)).Perm (l ++ r) := by
      have : (l.take s ++ l.drop s ++ (r.take e ++ r.drop e)) = l ++ r := by simp
      rw [← this, List.append_assoc, List.append_assoc]
      refine List.Perm.append_left _ ?_
      rw [← List.append_assoc, ← List.append_assoc]
      exact List.Perm.append_right _ List.perm_append_comm
    exact (p1.append p2).trans e1
  · have c1 := hl.cross hr hs he h1
    have c2 := hr.cross hl he hs h2
    have pl := hl
    have pr := hr
    unfold Srt at pl pr
    rw [← List.take_append_drop s l, List.pairwise_append] at pl
    rw [← List.take_append_drop e r, List.pairwise_append] at pr
    have hx' := p1.mem_iff.1 hx
    have hy' := p2.mem_iff.1 hy
    rcases List.mem_append.1 hx' with a | a <;> rcases List.mem_append.1 hy' with b | b
    · exact pl.2.2 x a y b
    · exact c1 x a y b
    · exact c2 x a y b
    · exact pr.2.2 x a y b

/-- One that is put into its place. -/
theorem merged_front {r : List Int} {x : Int} {e : Nat} (hr : Srt key r) (he : e ≤ r.length) (h1 : e = 0 ∨ kLe key (r.getD (e - 1) 0) x) (h2 : e = r.length ∨ kLe key x (r.getD e 0)) :
    (r.take e ++ x :: r.drop e).Perm (x :: r) ∧ Srt key (r.take e ++ x :: r.drop e) := by
  refine ⟨by conv => rhs; rw [← List.take_append_drop e r]
             exact List.perm_middle, ?_⟩
  have c1 := hr.cross (srt_one x) (s := e) (e := 0) he (by simp) (by rcases h1 with h | h; exact .inl h; exact .inr (.inr (by simpa using h)))
  have c2 := (srt_one (key := key) x).cross hr (s := 1) (e := e) (by simp) he (by rcases h2 with h | h; exact .inr (.inl h); exact .inr (.inr (by simpa using h)))
  have pr := hr
  unfold Srt at pr
  rw [← List.take_append_drop e r, List.pairwise_append] at pr
  refine List.pairwise_append.2 ⟨pr.1, List.pairwise_cons.2 ⟨fun y hy => c2 x (by simp) y hy, pr.2.1⟩, fun a ha b hb => ?_⟩
  rcases List.mem_cons.1 hb with h | h
  · subst h; exact c1 a ha b (by simp)
  · exact pr.2.2 a ha b h
end

/-- Two places that are exchanged. -/
theorem exch (X Y Z : List Int) (a b : Int) : ((X ++ a :: (Y ++ b :: Z)).set X.length b).set (X.length + 1 + Y.length) a = X ++ b :: (Y ++ a :: Z) := by
  rw [List.set_append_right _ _ (Nat.le_refl _), Nat.sub_self, List.set_cons_zero, List.set_append_right _ _ (by omega)]
  rw [show X.length + 1 + Y.length - X.length = Y.length + 1 by omega, List.set_cons_succ, List.set_append_right _ _ (Nat.le_refl _), Nat.sub_self, List.set_cons_zero]
theorem exch1 (X Z : List Int) (a b : Int) : ((X ++ a :: b :: Z).set X.length b).set (X.length + 1) a = X ++ b :: a :: Z := exch X [] Z a b
theorem exch1' (X Z : List Int) (a b : Int) : ((X ++ a :: b :: Z).set (X.length + 1) a).set X.length b = X ++ b :: a :: Z := by
  rw [List.set_comm _ _ (by omega)]; exact exch1 X Z a b

/-- Block i of blocks of bs. -/
def blk (bs i : Nat) (l : List Int) : List Int := (l.drop (bs * i)).take bs
/-- Block i is sorted, and has what it had. -/
def BlkOk (key : Int → Int) (bs i : Nat) (z d : List Int) : Prop := Srt key (blk bs i d) ∧ (blk bs i d).Perm (blk bs i z)

theorem blk_all {bs : Nat} {l : List Int} (h : l.length ≤ bs) : blk bs 0 l = l := by unfold blk; rw [Nat.mul_zero, List.drop_zero]; exact List.take_of_length_le h
theorem blk_none {bs i : Nat} {l : List Int} (h : l.length ≤ bs * i) : blk bs i l = [] := by unfold blk; rw [List.drop_eq_nil_of_le h]; simp
theorem blk_ahead {bs i a : Nat} {l r : List Int} (ha : a = l.length) (h : bs * i + bs ≤ a) : blk bs i (l ++ r) = blk bs i l := by
  unfold blk
  rw [List.drop_append_of_le_length (by omega), List.take_append_of_le_length (by simp; omega)]
theorem blk_behind {bs i : Nat} {l l' r : List Int} (he : l.length = l'.length) (h : l.length ≤ bs * i) : blk bs i (l ++ r) = blk bs i (l' ++ r) := by
  unfold blk
  rw [List.drop_append, List.drop_append, List.drop_eq_nil_of_le h, List.drop_eq_nil_of_le (show l'.length ≤ bs * i by omega), he]
theorem blk_here {bs i : Nat} {p m s : List Int} (hp : p.length = bs * i) (hm : m.length = bs ∨ (m.length ≤ bs ∧ s = [])) : blk bs i (p ++ m ++ s) = m := by
  unfold blk
  rw [List.append_assoc, ← hp, List.drop_left]
  rcases hm with h | ⟨h, rfl⟩
  · rw [← h, List.take_left]
  · rw [List.append_nil]; exact List.take_of_length_le h
theorem blk_two (bs i : Nat) (l : List Int) : blk (2 * bs) i l = blk bs (2 * i) l ++ blk bs (2 * i + 1) l := by
  unfold blk
  rw [show 2 * bs * i = bs * (2 * i) by rw [Nat.mul_comm 2 bs, Nat.mul_assoc], Nat.two_mul bs, List.take_add, List.drop_drop, show bs * (2 * i + 1) = bs * (2 * i) + bs by rw [Nat.mul_add, Nat.mul_one]]

/-- What rises, rises from block to block. -/
theorem blk_rise {bs i : Nat} {z : List Int} (h : z.Pairwise (· < ·)) : ∀ x ∈ blk bs i z, ∀ y ∈ blk bs (i + 1) z, x < y := by
  intro x hx y hy
  have h1 : (z.drop (bs * i)).Pairwise (· < ·) := List.Pairwise.drop h
  rw [← List.take_append_drop bs (z.drop (bs * i)), List.pairwise_append] at h1
  refine h1.2.2 x hx y ?_
  unfold blk at hy
  rw [List.drop_drop, show bs * i + bs = bs * (i + 1) by rw [Nat.mul_add, Nat.mul_one]]
  exact List.mem_of_mem_take hy

end Go.Proofs.YtniefplgijpckaaGreat
namespace Go.Proofs.YtniefplgijpckaaGreat
open Go.RowKit

/-- The ints of a row of one's own in block g. -/
def IRow (w : World) (g n cap : Nat) (zs : List Int) : Prop := w.ownsRow 0 3 1 (.slice (some ⟨g, 0, none⟩) n cap) n (zs.map (Value.int .i64))

section
variable {w w' : World} {g n cap : Nat} {zs : List Int}
theorem IRow.len (h : IRow w g n cap zs) : zs.length = n := by have := h.1; simpa using this
theorem IRow.lt (h : IRow w g n cap zs) : g < w.heap.size := (World.ownsRow.lt h g rfl).2
theorem IRow.room (h : IRow w g n cap zs) : n ≤ cap ∧ cap ≤ maxLen := by
  rcases h.2 with ⟨h', _⟩ | ⟨g', cap', cur, h', _, _, h1, h2, _⟩
  · simp at h'
  · simp only [Value.slice.injEq] at h'
    obtain ⟨_, _, rfl⟩ := h'
    exact ⟨h1, h2⟩
theorem IRow.cell (h : IRow w g n cap zs) {i : Nat} (hi : i < n) : w.cell? ⟨g, i, none⟩ = some (.int .i64 (zs.getD i 0)) := by
  rw [World.ownsRow.cellAt h i (by omega)]
  have := h.len
  simp [List.getD, show i < zs.length by omega]
theorem IRow.free (h : IRow w g n cap zs) (i : Nat) : w.frozen? ⟨g, i, none⟩ = false := World.ownsRow.frozenAt h i
theorem IRow.set (h : IRow w g n cap zs) (i : Nat) (x : Int) : IRow (w.setCell ⟨g, i, none⟩ (.int .i64 x)) g n cap (zs.set i x) := by
  unfold IRow
  rw [List.map_set]
  exact (World.ownsRow.stored h i _).1
theorem IRow.keep (h : IRow w g n cap zs) (hb : w'.heap[g]? = w.heap[g]?) : IRow w' g n cap zs := own_keep h (fun k hk => by simp only [Value.ownBlock, Option.some.injEq] at hk; subst hk; exact hb)
theorem IRow.drewN (h : IRow w g n cap zs) (q : Nat) : IRow (w.drewN q) g n cap zs := h.keep rfl
/-- Behind the exchange's first store the second place still holds something. -/
theorem IRow.still (h : IRow w g n cap zs) {i j : Nat} (_ : i < n) (hj : j < n) (x : Int) : ∃ u, (w.setCell ⟨g, i, none⟩ (.int .i64 x)).cell? ⟨g, j, none⟩ = some u := ⟨_, (h.set i x).cell hj⟩
/-- Two that are exchanged. -/
theorem IRow.swap (h : IRow w g n cap zs) (i j : Nat) (x y : Int) : IRow ((w.setCell ⟨g, i, none⟩ (.int .i64 x)).setCell ⟨g, j, none⟩ (.int .i64 y)).drew g n cap ((zs.set i x).set j y) := ((h.set i x).set j y).drewN 1

/-- Only block g is written to. -/
abbrev At1 (g : Nat) : Nat → Prop := fun k => k = g
theorem wrote_swap (w : World) (g i j : Nat) (x y : Value) : Wrote (At1 g) w ((w.setCell ⟨g, i, none⟩ x).setCell ⟨g, j, none⟩ y).drew := (((Wrote.refl (At1 g) w).setCell (q := ⟨g, i, none⟩) (Or.inr rfl) x).setCell (q := ⟨g, j, none⟩) (Or.inr rfl) y).drew

/-- What a call that rearranges the row leaves. -/
def Rearr (w : World) (g n cap : Nat) (zs : List Int) (e : Ending) (w' : World) : Prop := e = .returned (.tuple #[]) ∧ IRow w' g n cap zs ∧ Wrote (At1 g) w w'
end

theorem getD_at (P R : List Int) (i : Nat) : (P ++ R).getD (P.length + i) 0 = R.getD i 0 := by simp only [List.getD]; rw [List.getElem?_append_right (by omega)]; simp
theorem getD_left (P R : List Int) (i : Nat) (h : i < P.length) : (P ++ R).getD i 0 = P.getD i 0 := by simp only [List.getD]; rw [List.getElem?_append_left h]
theorem getD_head (P R : List Int) (x : Int) : (P ++ x :: R).getD P.length 0 = x := by simp [List.getD]

/-- What cmp tells of two keys. -/
def cmp3 (a b : Int) : Int := if a < b then -1 else if b < a then 1 else 0
theorem cmp3_lt {a b : Int} (h : a < b) : cmp3 a b < 0 := by unfold cmp3; rw [if_pos h]; omega
theorem cmp3_ge {a b : Int} (h : ¬ a < b) : 0 ≤ cmp3 a b := by unfold cmp3; rw [if_neg h]; split <;> omega

/-- What is asked of a comparison: at any two of N numbers, in every world in which only block g was written to, it tells how their keys stand. -/
def CmpAt (key : Int → Int) (N : Int) (B g : Nat) (w : World) : Prop :=
  ∀ (W : World) (a b : Int), Wrote (At1 g) w W → 0 ≤ a → a < N → 0 ≤ b → b < N →
    Calls Tryz.prog 158 #[.int .i64 a, .int .i64 b, .pointer (some ⟨B, 0, none⟩)] W fun e w' => e = .returned (.int .i64 (cmp3 (key a) (key b))) ∧ ∃ q, w' = W.drewN q
theorem CmpAt.later {key : Int → Int} {N : Int} {B g : Nat} {w w' : World} (h : CmpAt key N B g w) (hw : Wrote (At1 g) w w') : CmpAt key N B g w' :=
  fun W a b hW => h W a b (hw.trans hW)

end Go.Proofs.YtniefplgijpckaaGreat
namespace Go.Proofs.YtniefplgijpckaaGreat
open Go.RowKit

theorem isNaNAny (x : Int) (w : World) : Calls Tryz.prog 163 #[.int .i32 x] w fun e w' => e = .returned (.bool false) ∧ w = w' := by
  go_enter Tryz.func163, Tryz.ntmps163
  go_wp2
  go_ret
  exact ⟨rfl, rfl⟩

set_option maxRecDepth 100000 in
set_option maxHeartbeats 1600000 in
theorem compareAny (x y : Int) (w : World) : Calls Tryz.prog 159 #[.int .i32 x, .int .i32 y] w fun e w' => e = .returned (.int .i64 (cmp3 x y)) ∧ w' = w := by
  rcases (show x < y ∨ y < x ∨ x = y from by omega) with h | h | h
  · have HE := Lib.hid (show cmp3 x y = -1 by unfold cmp3; rw [if_pos h])
    go_enter Tryz.func159, Tryz.ntmps159
    go_wp2_with (go_at_call 163; refine (isNaNAny _ _).mono ?_; rintro e w' ⟨rfl, rfl⟩)
    go_ret
    exact ⟨by rw [HE.out]; rfl, rfl⟩
  · have HE := Lib.hid (show cmp3 x y = 1 by unfold cmp3; rw [if_neg (by omega), if_pos h])
    have h2 : ¬ x < y := by omega
    go_enter Tryz.func159, Tryz.ntmps159
    go_wp2_with (go_at_call 163; refine (isNaNAny _ _).mono ?_; rintro e w' ⟨rfl, rfl⟩)
    go_ret
    exact ⟨by rw [HE.out]; rfl, rfl⟩
  · subst h
    have HE := Lib.hid (show cmp3 x x = 0 by unfold cmp3; rw [if_neg (by omega), if_neg (by omega)])
    go_enter Tryz.func159, Tryz.ntmps159
    go_wp2_with (go_at_call 163; refine (isNaNAny _ _).mono ?_; rintro e w' ⟨rfl, rfl⟩)
    go_ret
    exact ⟨by rw [HE.out]; rfl, rfl⟩

/-- The key of an operation's place: its value. -/
def keyOf (os : List (Int × Int)) (i : Int) : Int := (os.getD i.toNat (0, 0)).2

/-- The function that tells a place's value. -/
def keyF (O : Nat) : Value := .func (.func 151) #[] #[.pointer (some ⟨O, 0, none⟩)]

set_option maxRecDepth 100000 in
set_option maxHeartbeats 1600000 in
theorem keyAny (os : List (Int × Int)) (W : World) (O : Nat) (ao : Option Addr) (n cap : Nat) (a : Int) (hO : W.cell? ⟨O, 0, none⟩ = some (.slice ao n cap)) (ho : OpsAt W ao n os) (a0 : 0 ≤ a) (a1 : a < n) :
    Calls Tryz.prog 151 #[.int .i64 a, .pointer (some ⟨O, 0, none⟩)] W fun e w' => e = .returned (.int .i32 (keyOf os a)) ∧ w' = W := by
  obtain ⟨i, hi⟩ : ∃ i, a.toNat = i := ⟨_, rfl⟩
  obtain ⟨g, off, rfl, gl, hc⟩ := ho.2 (by omega)
  have c1 := (hc i (by omega)).2
  unfold keyOf
  rw [hi]
  clear hc ho
  generalize (os.getD i (0, 0)).2 = x at *
  go_enter Tryz.func151, Tryz.ntmps151
  go_wp2
  go_ret
  exact ⟨rfl, rfl⟩

set_option maxRecDepth 100000 in
set_option maxHeartbeats 1600000 in
theorem closAny (os : List (Int × Int)) (W : World) (B O : Nat) (ao : Option Addr) (n cap : Nat) (a b : Int) (hB : W.cell? ⟨B, 0, none⟩ = some (keyF O)) (hO : W.cell? ⟨O, 0, none⟩ = some (.slice ao n cap)) (ho : OpsAt W ao n os) (a0 : 0 ≤ a) (a1 : a < n) (b0 : 0 ≤ b) (b1 : b < n) :
    Calls Tryz.prog 158 #[.int .i64 a, .int .i64 b, .pointer (some ⟨B, 0, none⟩)] W fun e w' => e = .returned (.int .i64 (cmp3 (keyOf os a) (keyOf os b))) ∧ ∃ q, w' = W.drewN q := by
  have K := fun q x hx0 hx1 => keyAny os (W.drewN q) O ao n cap x hO (ho.keep ⟨rfl, rfl, rfl, Nat.le_refl _, fun _ _ => rfl⟩) hx0 hx1
  have KA := fun q => Calls.quiet_of_same (K q a a0 a1)
  have KB := fun q => Calls.quiet_of_same (K q b b0 b1)
  unfold keyF at hB
  clear ho hO K
  generalize keyOf os a = x at *
  generalize keyOf os b = y at *
  go_enter Tryz.func158, Tryz.ntmps158
  go_wp2_with fail
  go_quiet (first | (go_at_call 159; exact Calls.quiet_of_same (compareAny _ _ _)) | exact KA _ | exact KB _)
  go_wp2
  go_ret
  exact ⟨rfl, _, rfl⟩

end Go.Proofs.YtniefplgijpckaaGreat
