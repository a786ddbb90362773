/-
  A deque of places, in plain lists: what becomes of it by each operation, which push a pop meets, and codes; whom is met, the other way round, and as many as were there. Conditions: none; no Go function is looked at here. A deque in a walk: what becomes of it, of boxes and of lists beside it, between the calls. Conditions: none; no Go function is walked here. What Copy of package ring does, at every deque and at nil. Conditions: a deque as Rng says. What Do of package ring does, at every deque and at nil: what an operation is told, and what becomes of the items. Conditions: a deque as Rng says; a kind of 0 to 255. The calls of package ring where one deque is looked at; the example that every statement asks ('known'); what reaperref04.Same tells of equal lists. Conditions: a deque as Rng1 says; lists of at most a thousand. How wide an int is, and its zero. Conditions: none. A line of pushes that wait, in plain lists: what becomes of it by each operation, which push a pop meets, and codes. Conditions: none; no Go function is looked at here. Rows of numbers and of what is told, in blocks of one's own, and boxes that hold them; whom the first operations meet, and codes, in rows. Conditions: none; no Go function is looked at here. A row of what is told, in a block of one's own: codes and values. Conditions: none; no Go function is looked at here. What Spared of package match answers; equality of numbers and of codes; the chapter's example holds. Conditions: operations that lie in memory, at most a million; lists of at most a thousand. What Pairs of package match answers. Conditions: operations that lie in memory, at most a million. MatchFront: the walk. Conditions: arguments as they came in. The document's stack of places, in plain lists: those that were there are -1; three rows of one's own side by side. Conditions: none; no Go function is looked at here. What reaperref09.Pairs and reaperref09.Spared answer. Conditions: operations that lie in memory, at most a thousand. MatchPairs: the walk. Conditions: arguments as they came in. Who was met, how many meet at most, and which item a pop takes that meets nobody, in plain lists; a row of bools in a block of one's own. Conditions: none; no Go function is looked at here.
-/
import Derived.Test.YtkbhemaijbkpbaaGreatQDRng10m
import Derived.Deep.CutRange
import Derived.Deep.CutBlock
namespace Go.Proofs.YtkbhemaijbkpbaaGreat.D10

/-- The places of those that wait, from left to right, behind the first ones of many, of these kinds; -1: an item that was there. -/
def dqAt (most : Int) (s0 : List Int) (ks : Nat → Int) : Nat → List Int
  | 0 => s0
  | k + 1 => dqL most (dqAt most s0 ks k) (ks k) k
/-- The push that one meets. -/
def dqP (s : List Int) (kind : Int) : Int := if kind = 3 then s.headD (-1) else if kind = 4 then s.getLastD (-1) else -1
/-- The codes of the first n, and whom these meet. -/
def dcL (most : Int) (s0 : List Int) (ks : Nat → Int) (n : Nat) : List Int := (List.range n).map fun k => dqC most (dqAt most s0 ks k) (ks k)
def dpL (most : Int) (s0 : List Int) (ks : Nat → Int) (n : Nat) : List Int := (List.range n).map fun k => dqP (dqAt most s0 ks k) (ks k)
/-- The items that were there. -/
def olds (t : Int) : List Int := List.replicate t.toNat (-1)

section
variable {most : Int} {s0 : List Int} {ks : Nat → Int} {n k : Nat}
theorem dcL_length : (dcL most s0 ks n).length = n := by simp [dcL]
theorem dpL_length : (dpL most s0 ks n).length = n := by simp [dpL]
theorem dcL_snoc : dcL most s0 ks (n + 1) = dcL most s0 ks n ++ [dqC most (dqAt most s0 ks n) (ks n)] := by simp [dcL, List.range_succ]
theorem dpL_snoc : dpL most s0 ks (n + 1) = dpL most s0 ks n ++ [dqP (dqAt most s0 ks n) (ks n)] := by simp [dpL, List.range_succ]
theorem dcL_getD (h : k < n) : (dcL most s0 ks n).getD k 0 = dqC most (dqAt most s0 ks k) (ks k) := by simp [dcL, List.getD, h]
theorem dpL_getD (h : k < n) : (dpL most s0 ks n).getD k 0 = dqP (dqAt most s0 ks k) (ks k) := by simp [dpL, List.getD, h]

/-- What is told, after k of n. -/
def dcK (most : Int) (s0 : List Int) (ks : Nat → Int) (n k : Nat) : List Int := dcL most s0 ks k ++ List.replicate (n - k) 0
def dpK (most : Int) (s0 : List Int) (ks : Nat → Int) (n k : Nat) : List Int := dpL most s0 ks k ++ List.replicate (n - k) (-1)
theorem dcK_length (h : k ≤ n) : (dcK most s0 ks n k).length = n := by simp [dcK, dcL_length]; omega
theorem dcK_all : dcK most s0 ks n n = dcL most s0 ks n := by simp [dcK]
theorem dpK_all : dpK most s0 ks n n = dpL most s0 ks n := by simp [dpK]
theorem dcK_none : dcK most s0 ks n 0 = List.replicate n 0 := by simp [dcK, dcL]
theorem dpK_none : dpK most s0 ks n 0 = List.replicate n (-1) := by simp [dpK, dpL]
theorem dcK_put (h : k < n) : (dcK most s0 ks n k).set k (dqC most (dqAt most s0 ks k) (ks k)) = dcK most s0 ks n (k + 1) := by
  unfold dcK
  rw [List.set_append_right _ _ (by rw [dcL_length]; omega), dcL_length, Nat.sub_self, show n - k = (n - (k + 1)) + 1 by omega, List.replicate_succ, List.set_cons_zero, dcL_snoc]
  simp
theorem dpK_put (h : k < n) : (dpK most s0 ks n k).set k (dqP (dqAt most s0 ks k) (ks k)) = dpK most s0 ks n (k + 1) := by
  unfold dpK
  rw [List.set_append_right _ _ (by rw [dpL_length]; omega), dpL_length, Nat.sub_self, show n - k = (n - (k + 1)) + 1 by omega, List.replicate_succ, List.set_cons_zero, dpL_snoc]
  simp
theorem dpK_same (h : k < n) (e : dqP (dqAt most s0 ks k) (ks k) = -1) : dpK most s0 ks n k = dpK most s0 ks n (k + 1) := by
  unfold dpK
  rw [dpL_snoc, e, show n - k = (n - (k + 1)) + 1 by omega, List.replicate_succ]
  simp

/-- What holds of a deque of places behind k operations: no more than may be; each place is that of an item that was there, or of one of the k. -/
structure DqOk (most : Int) (k : Nat) (s : List Int) : Prop where
  room : (s.length : Int) ≤ most
  places : ∀ j ∈ s, -1 ≤ j ∧ j < k

theorem dqL_ok {s : List Int} (h : DqOk most k s) (kind : Int) : DqOk most (k + 1) (dqL most s kind k) := by
  obtain ⟨h3, h4⟩ := h
  have up : ∀ j ∈ s, -1 ≤ j ∧ j < ((k + 1 : Nat) : Int) := fun j hj => by have := h4 j hj; omega
  unfold dqL
  split
  · split
    · refine ⟨by simp; omega, fun j hj => ?_⟩
      simp only [List.mem_cons] at hj
      rcases hj with rfl | hj
      · omega
      · exact up j hj
    · exact ⟨h3, up⟩
  · split
    · split
      · refine ⟨by simp; omega, fun j hj => ?_⟩
        simp only [List.mem_append, List.mem_singleton] at hj
        rcases hj with hj | rfl
        · exact up j hj
        · omega
      · exact ⟨h3, up⟩
    · split
      · exact ⟨by simp only [List.length_tail]; omega, fun j hj => up j (List.mem_of_mem_tail hj)⟩
      · split
        · exact ⟨by simp only [List.length_dropLast]; omega, fun j hj => up j (List.dropLast_subset _ hj)⟩
        · exact ⟨h3, up⟩
theorem dqAt_ok (h0 : DqOk most 0 s0) (ks : Nat → Int) : ∀ k, DqOk most k (dqAt most s0 ks k)
  | 0 => h0
  | k + 1 => by simpa [dqAt] using dqL_ok (dqAt_ok h0 ks k) (ks k)
theorem olds_ok {t : Int} (h0 : 0 ≤ t) (h1 : t ≤ most) : DqOk most 0 (olds t) := by
  refine ⟨by simp [olds]; omega, fun j hj => ?_⟩
  have := List.eq_of_mem_replicate hj
  omega
theorem headD_in {s : List Int} {P : Int → Prop} (h : ∀ j ∈ s, P j) (d : Int) (hd : P d) : P (s.headD d) := by
  cases s with
  | nil => exact hd
  | cons x l => exact h x (by simp)
theorem getLastD_in {s : List Int} {P : Int → Prop} (h : ∀ j ∈ s, P j) (d : Int) (hd : P d) : P (s.getLastD d) := by
  rcases List.eq_nil_or_concat s with e | ⟨l, x, e⟩
  · rw [e]; exact hd
  · rw [List.concat_eq_append] at e
    rw [e, List.getLastD_concat]
    exact h x (by rw [e]; simp)
theorem dqP_in {s : List Int} (h : DqOk most k s) (kind : Int) : -1 ≤ dqP s kind ∧ dqP s kind < k := by
  unfold dqP
  split
  · exact headD_in h.places _ (by omega)
  · split
    · exact getLastD_in h.places _ (by omega)
    · omega
/-- Each push at most once: a place that is met is not there any more, and no later one is the same. -/
structure Once (s : List Int) (k : Nat) : Prop where
  low : ∀ j ∈ s, j < k
  one : ∀ j, 0 ≤ j → s.count j ≤ 1
theorem Once.put {s : List Int} (h : Once s k) (left : Bool) : Once (if left then (k : Int) :: s else s ++ [(k : Int)]) (k + 1) := by
  have hk : s.count (k : Int) = 0 := List.count_eq_zero.2 fun hm => by have := h.low _ hm; omega
  refine ⟨fun j hj => ?_, fun j hj => ?_⟩
  · have : j = k ∨ j ∈ s := by
      cases left
      · simp only [Bool.false_eq_true, if_false, List.mem_append, List.mem_singleton] at hj
        exact hj.symm
      · simp only [if_true, List.mem_cons] at hj
        exact hj
    rcases this with rfl | hm
    · omega
    · have := h.low j hm; omega
  · by_cases e : j = k
    · subst e
      cases left <;> simp [List.count_append, hk]
    · have e' : ¬ (k : Int) = j := fun x => e x.symm
      have := h.one j hj
      cases left <;> simp [List.count_append, e'] <;> omega
theorem Once.sub {s l : List Int} (h : Once s k) (hs : List.Sublist l s) : Once l (k + 1) :=
  ⟨fun j hj => by have := h.low j (hs.subset hj); omega, fun j hj => Nat.le_trans (hs.count_le j) (h.one j hj)⟩
theorem once_olds (t : Int) : Once (olds t) 0 := by
  refine ⟨fun j hj => ?_, fun j hj => ?_⟩
  · have := List.eq_of_mem_replicate hj; omega
  · rw [olds, List.count_replicate]
    have : ¬ (-1 : Int) = j := by omega
    simp [this]
theorem once_step {s : List Int} (h : Once s k) (kind : Int) : Once (dqL most s kind k) (k + 1) := by
  unfold dqL
  split
  · split
    · exact h.put true
    · exact h.sub (List.Sublist.refl _)
  · split
    · split
      · exact h.put false
      · exact h.sub (List.Sublist.refl _)
    · split
      · exact h.sub (List.tail_sublist _)
      · split
        · exact h.sub (List.dropLast_sublist _)
        · exact h.sub (List.Sublist.refl _)
theorem once_at (h0 : Once s0 0) (ks : Nat → Int) : ∀ k, Once (dqAt most s0 ks k) k
  | 0 => h0
  | k + 1 => once_step (once_at h0 ks k) (ks k)

/-- Who is met is not there behind. -/
theorem met_gone {s : List Int} (h : Once s k) (kind : Int) (hp : 0 ≤ dqP s kind) : dqP s kind ∉ dqL most s kind k := by
  unfold dqP dqL at *
  by_cases h3 : kind = 3
  · subst h3
    simp only [if_true, if_neg (show ¬ (3 : Int) = 1 by omega), if_neg (show ¬ (3 : Int) = 2 by omega)] at *
    cases s with
    | nil => simp at hp
    | cons x l =>
      simp only [List.headD_cons, List.tail_cons] at *
      intro hm
      have := h.one x hp
      rw [List.count_cons_self] at this
      have := List.count_pos_iff.2 hm
      omega
  · by_cases h4 : kind = 4
    · subst h4
      simp only [if_true, if_neg (show ¬ (4 : Int) = 1 by omega), if_neg (show ¬ (4 : Int) = 2 by omega), if_neg (show ¬ (4 : Int) = 3 by omega)] at *
      rcases List.eq_nil_or_concat s with e | ⟨l, x, e⟩
      · rw [e] at hp; simp at hp
      · rw [List.concat_eq_append] at e
        subst e
        rw [List.getLastD_concat, List.dropLast_concat] at *
        intro hm
        have h1 := h.one x hp
        rw [List.count_append, List.count_singleton_self] at h1
        have h2 := List.count_pos_iff.2 hm
        omega
    · simp only [if_neg h3, if_neg h4] at hp
      omega
/-- What is not there and came ahead does not come again. -/
theorem gone_stays {s : List Int} {j : Int} (h : j ∉ s) (hj : j < k) (kind : Int) : j ∉ dqL most s kind k := by
  unfold dqL
  repeat' split
  · simp only [List.mem_cons, not_or]; exact ⟨by omega, h⟩
  · exact h
  · simp only [List.mem_append, List.mem_singleton, not_or]; exact ⟨h, by omega⟩
  · exact h
  · exact fun hm => h (List.mem_of_mem_tail hm)
  · exact fun hm => h (List.dropLast_subset _ hm)
  · exact h
theorem gone_later {j : Int} {k : Nat} (h : j ∉ dqAt most s0 ks k) (hj : j < k) : ∀ d, j ∉ dqAt most s0 ks (k + d)
  | 0 => h
  | d + 1 => gone_stays (k := k + d) (gone_later h hj d) (by omega) _
theorem met_later (h0 : Once s0 0) {k i : Nat} (hki : k < i) (hp : 0 ≤ dqP (dqAt most s0 ks k) (ks k)) : dqP (dqAt most s0 ks k) (ks k) ∉ dqAt most s0 ks i := by
  obtain ⟨d, rfl⟩ := Nat.exists_eq_add_of_le hki
  have ho := once_at (most := most) h0 ks k
  have hl : dqP (dqAt most s0 ks k) (ks k) < (k + 1 : Nat) := by
    have : dqP (dqAt most s0 ks k) (ks k) < k := by
      unfold dqP
      split
      · exact headD_in ho.low _ (by omega)
      · split
        · exact getLastD_in ho.low _ (by omega)
        · omega
    omega
  exact gone_later (k := k + 1) (met_gone ho (ks k) hp) hl d
/-- Who is met stood there. -/
theorem met_in {s : List Int} {kind : Int} (hp : 0 ≤ dqP s kind) : dqP s kind ∈ s := by
  unfold dqP at *
  split
  · rename_i h3
    rw [if_pos h3] at hp
    cases s with
    | nil => simp at hp
    | cons x l => simp
  · rename_i h3
    rw [if_neg h3] at hp
    split
    · rename_i h4
      rw [if_pos h4] at hp
      rcases List.eq_nil_or_concat s with e | ⟨l, x, e⟩
      · rw [e] at hp; simp at hp
      · rw [List.concat_eq_append] at e
        rw [e, List.getLastD_concat]; simp
    · rename_i h4
      rw [if_neg h4] at hp
      omega
/-- Who stands there came ahead, was a push, and was told Done. -/
theorem stood {j : Int} (h0 : ∀ j ∈ s0, j < 0) (hj : 0 ≤ j) : ∀ k, j ∈ dqAt most s0 ks k → j < k ∧ (ks j.toNat = 1 ∨ ks j.toNat = 2) ∧ dqC most (dqAt most s0 ks j.toNat) (ks j.toNat) = 1
  | 0, h => by have := h0 j h; omega
  | k + 1, h => by
    by_cases hm : j ∈ dqAt most s0 ks k
    · obtain ⟨h1, h2, h3⟩ := stood h0 hj k hm
      exact ⟨by omega, h2, h3⟩
    · simp only [dqAt] at h
      have hk : j = k ∧ (ks k = 1 ∨ ks k = 2) ∧ ((dqAt most s0 ks k).length : Int) < most := by
        unfold dqL at h
        split at h
        · rename_i h1
          split at h
          · rename_i h2
            simp only [List.mem_cons] at h
            rcases h with h | h
            · exact ⟨h, .inl h1, h2⟩
            · exact absurd h hm
          · exact absurd h hm
        · split at h
          · rename_i h1
            split at h
            · rename_i h2
              simp only [List.mem_append, List.mem_singleton] at h
              rcases h with h | h
              · exact absurd h hm
              · exact ⟨h, .inr h1, h2⟩
            · exact absurd h hm
          · split at h
            · exact absurd (List.mem_of_mem_tail h) hm
            · split at h
              · exact absurd (List.dropLast_subset _ h) hm
              · exact absurd h hm
      obtain ⟨rfl, h2, h3⟩ := hk
      rw [show ((k : Nat) : Int).toNat = k by omega]
      refine ⟨by omega, h2, ?_⟩
      unfold dqC
      rw [if_pos h2, if_pos h3]
end

end Go.Proofs.YtkbhemaijbkpbaaGreat.D10
namespace Go.Proofs.YtkbhemaijbkpbaaGreat.D10
open Go.RowKit

section
variable {w : World} {g : Nat} {c x : Int}
end

section
variable {w W w1 : World} {F : Nat → Prop} {p : Nat} {most : Int} {zs : List Int}

/-- What stands behind a call on the stack, and a store into a box that was made ahead of it. -/
theorem Did.boxed (hF : ∀ g, F g → g < w.heap.size) (hb : Below w.heap.size w W) (d : Did F p most zs W w1) {g : Nat} (hg : w.heap.size ≤ g) (hl : g < W.heap.size) :
    w1.heap[g]? = W.heap[g]? ∧ ∀ a b, Did F p most zs w ((w1.setCell ⟨g, 0, none⟩ a).setCell ⟨g, 1, none⟩ b) := by
  obtain ⟨F', s, wr, l⟩ := d
  have hn : ¬ F g := fun e => by have := hF g e; omega
  have hn' : ¬ F' g := fun e => by
    rcases l g e with h | h
    · exact hn h
    · omega
  refine ⟨wr.block g hl hn, fun a b => ⟨F', ?_, ?_, ?_⟩⟩
  · exact s.apart (((Wrote.refl (fun k => k = g) w1).setCell (q := ⟨g, 0, none⟩) (.inr rfl) a).setCell (q := ⟨g, 1, none⟩) (.inr rfl) b) (fun k h1 h2 => hn' (by subst h2; exact h1))
  · exact (((Wrote.of hb F).trans wr).setCell (q := ⟨g, 0, none⟩) (.inl hg) a).setCell (q := ⟨g, 1, none⟩) (.inl hg) b
  · intro k hk
    rcases l k hk with h | h
    · exact .inl h
    · exact .inr (Nat.le_trans hb.size h)

theorem boxed1 (w : World) : ∀ W, w.alloc (.cells #[.int .u8 0, .int .i32 0] 74) = W → RBox W w.heap.size 0 0 ∧ Below w.heap.size w W := by
  rintro W rfl
  exact ⟨heap_alloc_new w _, (Below.refl _ _).alloc (Nat.le_refl _) _⟩

end

/-- A stack whose blocks are all new, and nothing old is touched. -/
def At (w : World) (F : Nat → Prop) (p : Nat) (most : Int) (zs : List Int) (wr : World) : Prop := Rng wr F p most zs ∧ Below w.heap.size w wr ∧ ∀ g, F g → w.heap.size ≤ g

section
variable {w a b : World} {F G : Nat → Prop} {p : Nat} {most : Int} {zs zs' : List Int}
theorem At.new {n : Int} (h : Rng b (New w b) p n zs) (hb : Below w.heap.size w b) : At w (New w b) p n zs b := ⟨h, hb, fun _ hg => hg.1⟩
theorem At.fresh (h : At w F p most zs a) (hb : Below a.heap.size a b) : At w F p most zs b := ⟨h.1.fresh hb, h.2.1.trans (hb.mono h.2.1.size), h.2.2⟩
theorem At.drew (h : At w F p most zs a) : At w F p most zs a.drew := h.fresh (Below.refl _ _).drew
theorem At.next (h : At w F p most zs a) (d : Did F p most zs' a b) : ∃ F', At w F' p most zs' b ∧ Wrote F a b ∧ Later F F' a := by
  obtain ⟨F', s, wr, l⟩ := d
  refine ⟨F', ⟨s, h.2.1.trans (wr.below h.2.1.size h.2.2), fun g hg => ?_⟩, wr, l⟩
  rcases l g hg with h1 | h1
  · exact h.2.2 g h1
  · exact Nat.le_trans h.2.1.size h1
theorem At.lt (h : At w F p most zs a) : ∀ g, F g → g < a.heap.size := h.1.foot
/-- Another one's call. -/
theorem At.apart {m2 : Int} {q : Nat} {ys ys' : List Int} (h : At w F p most zs a) (k : At w G q m2 ys a) (ha : Apart F G) (d : Did G q m2 ys' a b) : At w F p most zs b ∧ ∃ G', At w G' q m2 ys' b ∧ Apart F G' ∧ Wrote G a b ∧ Later G G' a := by
  obtain ⟨G', k2, wr, l⟩ := k.next d
  exact ⟨⟨h.1.apart wr ha, k2.2.1, h.2.2⟩, G', k2, (l.apart ha.symm h.lt).symm, wr, l⟩

/-- Numbers that lie beside a stack. -/
def Beside (F : Nat → Prop) (w : World) (ao : Option Addr) (n : Nat) (zs : List Int) : Prop := Reads .i32 w ao n zs ∧ Off F ao ∧ ∀ x, ao = some x → x.block < w.heap.size
theorem Beside.keep {ao : Option Addr} {n : Nat} (h : Beside F a ao n zs) (hb : Below a.heap.size a b) : Beside F b ao n zs := ⟨h.1.keep hb, h.2.1, fun x hx => Nat.lt_of_lt_of_le (h.2.2 x hx) hb.size⟩
theorem Beside.off {F' : Nat → Prop} {ao : Option Addr} {n : Nat} (h : Beside F a ao n zs) (hw : Wrote F a b) (l : Later F F' a) : Beside F' b ao n zs :=
  ⟨h.1.off h.2.1 hw, fun x hx => l.not (h.2.1 x hx) (h.2.2 x hx), fun x hx => Nat.lt_of_lt_of_le (h.2.2 x hx) hw.size⟩
end

section
variable {w a b : World} {F G : Nat → Prop} {p : Nat} {most : Int} {zs : List Int}
theorem Rng.mono (h : Rng w F p most zs) (hFG : ∀ g, F g → G g) (hG : ∀ g, G g → g < w.heap.size) : Rng w G p most zs := by
  obtain ⟨g, ds, f, h1, h2, h3, h4, h5, h6, h7⟩ := h
  exact ⟨g, ds, f, h1, h2, h3, h4, hFG _ h5, hFG _ h6, hG⟩

end

theorem putTrue (w : World) : Calls Tryz.prog 188 #[.bool true] w fun e w' => e = .returned (.agg #[.int .u8 1, .int .i32 0]) ∧ Below w.heap.size w w' := by
  go_enter Tryz.func188, Tryz.ntmps188
  go_wp2
  exact bodyPost_ret (v := .agg #[.int .u8 1, .int .i32 0]) (by simp [results, Tryz.results188, go_sem]) rfl ⟨rfl, by exact (Below.refl _ _).alloc (Nat.le_refl _) _⟩
theorem putFalse (w : World) : Calls Tryz.prog 188 #[.bool false] w fun e w' => e = .returned (.agg #[.int .u8 3, .int .i32 0]) ∧ Below w.heap.size w w' := by
  go_enter Tryz.func188, Tryz.ntmps188
  go_wp2
  exact bodyPost_ret (v := .agg #[.int .u8 3, .int .i32 0]) (by simp [results, Tryz.results188, go_sem]) rfl ⟨rfl, by exact (Below.refl _ _).alloc (Nat.le_refl _) _⟩
theorem takenTrue (w : World) (v : Int) : Calls Tryz.prog 191 #[.int .i32 v, .bool true] w fun e w' => e = .returned (.agg #[.int .u8 2, .int .i32 v]) ∧ Below w.heap.size w w' := by
  go_enter Tryz.func191, Tryz.ntmps191
  go_wp2
  exact bodyPost_ret (v := .agg #[.int .u8 2, .int .i32 v]) (by simp [results, Tryz.results191, go_sem]) rfl ⟨rfl, by exact (Below.refl _ _).alloc (Nat.le_refl _) _⟩
theorem takenFalse (w : World) (v : Int) : Calls Tryz.prog 191 #[.int .i32 v, .bool false] w fun e w' => e = .returned (.agg #[.int .u8 4, .int .i32 0]) ∧ Below w.heap.size w w' := by
  go_enter Tryz.func191, Tryz.ntmps191
  go_wp2
  exact bodyPost_ret (v := .agg #[.int .u8 4, .int .i32 0]) (by simp [results, Tryz.results191, go_sem]) rfl ⟨rfl, by exact (Below.refl _ _).alloc (Nat.le_refl _) _⟩

/-- The boxes with which Do begins: the operation, what it is told. -/
theorem begunDo (w : World) (k x : Int) : ∀ W, (w.alloc (.cells #[.int .u8 k, .int .i32 x] 38)).alloc (.cells #[.int .u8 0, .int .i32 0] 74) = W →
    W.cell? ⟨w.heap.size, 0, none⟩ = some (.int .u8 k) ∧ W.cell? ⟨w.heap.size, 1, none⟩ = some (.int .i32 x) ∧ RBox W (w.heap.size + 1) 0 0 ∧ Below w.heap.size w W := by
  rintro W rfl
  refine ⟨?_, ?_, ?_, ((Below.refl _ _).alloc (Nat.le_refl _) _).alloc (by simp) _⟩
  · go_simp
  · go_simp
  · unfold RBox
    have := heap_alloc_new (w.alloc (.cells #[.int .u8 k, .int .i32 x] 38)) (.cells #[.int .u8 0, .int .i32 0] 74)
    simpa using this

section
variable {w w1 w2 : World} {F : Nat → Prop} {p : Nat} {most : Int} {zs : List Int}
theorem Did.fresh (d : Did F p most zs w w1) (hb : Below w1.heap.size w1 w2) : Did F p most zs w w2 := by
  obtain ⟨F', s, wr, l⟩ := d
  exact ⟨F', s.fresh hb, wr.trans (Wrote.of hb F), l⟩

set_option maxRecDepth 100000 in
set_option maxHeartbeats 1600000 in
theorem doPushLOk (h : Rng w F p most zs) (x : Int) (hf : (zs.length : Int) < most) :
    Calls Tryz.prog 184 #[.pointer (some ⟨p, 0, none⟩), .agg #[.int .u8 1, .int .i32 x]] w fun e w' => e = .returned (.agg #[.int .u8 1, .int .i32 0]) ∧ Did F p most (x :: zs) w w' := by
  go_enter Tryz.func184, Tryz.ntmps184
  go_upto_region 1 with (fail)
  generalize hW : (w.alloc (.cells #[.int .u8 1, .int .i32 x] 38)).alloc (.cells #[.int .u8 0, .int .i32 0] 74) = W
  obtain ⟨o0, o1, b0, hb⟩ := begunDo w _ _ W hW
  clear hW
  have HX := Lib.hid (fun w1 (d : Did F p most (x :: zs) W w1) => d.boxed h.foot hb (g := w.heap.size + 1) (by omega) b0.lt)
  have HZ := Lib.hid b0
  have H := Lib.hid (h.fresh hb)
  clear h hb b0
  have C := pushLOk H.out x hf
  go_wp2_with fail
  refine C.mono ?_
  clear C
  rintro e w1 ⟨rfl, d⟩
  have HD := Lib.hid d
  clear d o0 o1
  go_wp2_with fail
  refine (putTrue w1).mono ?_
  rintro e w2 ⟨rfl, b2⟩
  obtain ⟨h1, h2⟩ := HX.out w2 (HD.out.fresh b2)
  have b1 : RBox w2 (w.heap.size + 1) 0 0 := h1.trans HZ.out
  have H2 := Lib.hid h2
  clear h1 h2 b2
  have c0 := b1.c0
  have c1 := b1.c1
  have f := b1.f
  have r := b1.set2 1 0
  have r0 := r.c0
  have r1 := r.c1
  clear b1 r
  go_wp2
  exact bodyPost_ret (v := .agg #[.int .u8 1, .int .i32 0]) (by simp [results, Tryz.results184, go_sem, r0, r1]) rfl ⟨rfl, H2.out _ _⟩

set_option maxRecDepth 100000 in
set_option maxHeartbeats 1600000 in
theorem doPushLFull (h : Rng w F p most zs) (x : Int) (hf : ¬ (zs.length : Int) < most) :
    Calls Tryz.prog 184 #[.pointer (some ⟨p, 0, none⟩), .agg #[.int .u8 1, .int .i32 x]] w fun e w' => e = .returned (.agg #[.int .u8 3, .int .i32 0]) ∧ Did F p most zs w w' := by
  go_enter Tryz.func184, Tryz.ntmps184
  go_upto_region 1 with (fail)
  generalize hW : (w.alloc (.cells #[.int .u8 1, .int .i32 x] 38)).alloc (.cells #[.int .u8 0, .int .i32 0] 74) = W
  obtain ⟨o0, o1, b0, hb⟩ := begunDo w _ _ W hW
  clear hW
  have HX := Lib.hid (fun w1 (d : Did F p most zs W w1) => d.boxed h.foot hb (g := w.heap.size + 1) (by omega) b0.lt)
  have HZ := Lib.hid b0
  have H := Lib.hid (h.fresh hb)
  clear h hb b0
  have C := pushLFull H.out x (by omega)
  go_wp2_with fail
  refine C.mono ?_
  clear C
  rintro e w1 ⟨rfl, rfl⟩
  clear o0 o1
  go_wp2_with fail
  refine (putFalse W).mono ?_
  rintro e w2 ⟨rfl, b2⟩
  obtain ⟨h1, h2⟩ := HX.out w2 (H.out.did b2)
  have b1 : RBox w2 (w.heap.size + 1) 0 0 := h1.trans HZ.out
  have H2 := Lib.hid h2
  clear h1 h2 b2
  have c0 := b1.c0
  have c1 := b1.c1
  have f := b1.f
  have r := b1.set2 3 0
  have r0 := r.c0
  have r1 := r.c1
  clear b1 r
  go_wp2
  exact bodyPost_ret (v := .agg #[.int .u8 3, .int .i32 0]) (by simp [results, Tryz.results184, go_sem, r0, r1]) rfl ⟨rfl, H2.out _ _⟩

set_option maxRecDepth 100000 in
set_option maxHeartbeats 1600000 in
theorem doPushROk (h : Rng w F p most zs) (x : Int) (hf : (zs.length : Int) < most) :
    Calls Tryz.prog 184 #[.pointer (some ⟨p, 0, none⟩), .agg #[.int .u8 2, .int .i32 x]] w fun e w' => e = .returned (.agg #[.int .u8 1, .int .i32 0]) ∧ Did F p most (zs ++ [x]) w w' := by
  go_enter Tryz.func184, Tryz.ntmps184
  go_upto_region 1 with (fail)
  generalize hW : (w.alloc (.cells #[.int .u8 2, .int .i32 x] 38)).alloc (.cells #[.int .u8 0, .int .i32 0] 74) = W
  obtain ⟨o0, o1, b0, hb⟩ := begunDo w _ _ W hW
  clear hW
  have HX := Lib.hid (fun w1 (d : Did F p most (zs ++ [x]) W w1) => d.boxed h.foot hb (g := w.heap.size + 1) (by omega) b0.lt)
  have HZ := Lib.hid b0
  have H := Lib.hid (h.fresh hb)
  clear h hb b0
  have C := pushROk H.out x hf
  go_wp2_with fail
  refine C.mono ?_
  clear C
  rintro e w1 ⟨rfl, d⟩
  have HD := Lib.hid d
  clear d o0 o1
  go_wp2_with fail
  refine (putTrue w1).mono ?_
  rintro e w2 ⟨rfl, b2⟩
  obtain ⟨h1, h2⟩ := HX.out w2 (HD.out.fresh b2)
  have b1 : RBox w2 (w.heap.size + 1) 0 0 := h1.trans HZ.out
  have H2 := Lib.hid h2
  clear h1 h2 b2
  have c0 := b1.c0
  have c1 := b1.c1
  have f := b1.f
  have r := b1.set2 1 0
  have r0 := r.c0
  have r1 := r.c1
  clear b1 r
  go_wp2
  exact bodyPost_ret (v := .agg #[.int .u8 1, .int .i32 0]) (by simp [results, Tryz.results184, go_sem, r0, r1]) rfl ⟨rfl, H2.out _ _⟩

set_option maxRecDepth 100000 in
set_option maxHeartbeats 1600000 in
theorem doPushRFull (h : Rng w F p most zs) (x : Int) (hf : ¬ (zs.length : Int) < most) :
    Calls Tryz.prog 184 #[.pointer (some ⟨p, 0, none⟩), .agg #[.int .u8 2, .int .i32 x]] w fun e w' => e = .returned (.agg #[.int .u8 3, .int .i32 0]) ∧ Did F p most zs w w' := by
  go_enter Tryz.func184, Tryz.ntmps184
  go_upto_region 1 with (fail)
  generalize hW : (w.alloc (.cells #[.int .u8 2, .int .i32 x] 38)).alloc (.cells #[.int .u8 0, .int .i32 0] 74) = W
  obtain ⟨o0, o1, b0, hb⟩ := begunDo w _ _ W hW
  clear hW
  have HX := Lib.hid (fun w1 (d : Did F p most zs W w1) => d.boxed h.foot hb (g := w.heap.size + 1) (by omega) b0.lt)
  have HZ := Lib.hid b0
  have H := Lib.hid (h.fresh hb)
  clear h hb b0
  have C := pushRFull H.out x (by omega)
  go_wp2_with fail
  refine C.mono ?_
  clear C
  rintro e w1 ⟨rfl, rfl⟩
  clear o0 o1
  go_wp2_with fail
  refine (putFalse W).mono ?_
  rintro e w2 ⟨rfl, b2⟩
  obtain ⟨h1, h2⟩ := HX.out w2 (H.out.did b2)
  have b1 : RBox w2 (w.heap.size + 1) 0 0 := h1.trans HZ.out
  have H2 := Lib.hid h2
  clear h1 h2 b2
  have c0 := b1.c0
  have c1 := b1.c1
  have f := b1.f
  have r := b1.set2 3 0
  have r0 := r.c0
  have r1 := r.c1
  clear b1 r
  go_wp2
  exact bodyPost_ret (v := .agg #[.int .u8 3, .int .i32 0]) (by simp [results, Tryz.results184, go_sem, r0, r1]) rfl ⟨rfl, H2.out _ _⟩

set_option maxRecDepth 100000 in
set_option maxHeartbeats 1600000 in
theorem doPopLOk (z : Int) (h : Rng w F p most (z :: zs)) (x : Int) :
    Calls Tryz.prog 184 #[.pointer (some ⟨p, 0, none⟩), .agg #[.int .u8 3, .int .i32 x]] w fun e w' => e = .returned (.agg #[.int .u8 2, .int .i32 z]) ∧ Did F p most zs w w' := by
  go_enter Tryz.func184, Tryz.ntmps184
  go_upto_region 1 with (fail)
  generalize hW : (w.alloc (.cells #[.int .u8 3, .int .i32 x] 38)).alloc (.cells #[.int .u8 0, .int .i32 0] 74) = W
  obtain ⟨o0, o1, b0, hb⟩ := begunDo w _ _ W hW
  clear hW
  have HX := Lib.hid (fun w1 (d : Did F p most zs W w1) => d.boxed h.foot hb (g := w.heap.size + 1) (by omega) b0.lt)
  have HZ := Lib.hid b0
  have H := Lib.hid (h.fresh hb)
  clear h hb b0
  have C := popLOk z H.out
  go_wp2_with fail
  refine C.mono ?_
  clear C
  rintro e w1 ⟨rfl, d⟩
  have HD := Lib.hid d
  clear d o0 o1
  go_wp2_with fail
  refine (takenTrue w1 z).mono ?_
  rintro e w2 ⟨rfl, b2⟩
  obtain ⟨h1, h2⟩ := HX.out w2 (HD.out.fresh b2)
  have b1 : RBox w2 (w.heap.size + 1) 0 0 := h1.trans HZ.out
  have H2 := Lib.hid h2
  clear h1 h2 b2
  have c0 := b1.c0
  have c1 := b1.c1
  have f := b1.f
  have r := b1.set2 2 z
  have r0 := r.c0
  have r1 := r.c1
  clear b1 r
  go_wp2
  exact bodyPost_ret (v := .agg #[.int .u8 2, .int .i32 z]) (by simp [results, Tryz.results184, go_sem, r0, r1]) rfl ⟨rfl, H2.out _ _⟩

set_option maxRecDepth 100000 in
set_option maxHeartbeats 1600000 in
theorem doPopLNone (h : Rng w F p most []) (x : Int) :
    Calls Tryz.prog 184 #[.pointer (some ⟨p, 0, none⟩), .agg #[.int .u8 3, .int .i32 x]] w fun e w' => e = .returned (.agg #[.int .u8 4, .int .i32 0]) ∧ Did F p most [] w w' := by
  go_enter Tryz.func184, Tryz.ntmps184
  go_upto_region 1 with (fail)
  generalize hW : (w.alloc (.cells #[.int .u8 3, .int .i32 x] 38)).alloc (.cells #[.int .u8 0, .int .i32 0] 74) = W
  obtain ⟨o0, o1, b0, hb⟩ := begunDo w _ _ W hW
  clear hW
  have HX := Lib.hid (fun w1 (d : Did F p most [] W w1) => d.boxed h.foot hb (g := w.heap.size + 1) (by omega) b0.lt)
  have HZ := Lib.hid b0
  have H := Lib.hid (h.fresh hb)
  clear h hb b0
  have C := popLNone H.out
  go_wp2_with fail
  refine C.mono ?_
  clear C
  rintro e w1 ⟨rfl, rfl⟩
  clear o0 o1
  go_wp2_with fail
  refine (takenFalse W 0).mono ?_
  rintro e w2 ⟨rfl, b2⟩
  obtain ⟨h1, h2⟩ := HX.out w2 (H.out.did b2)
  have b1 : RBox w2 (w.heap.size + 1) 0 0 := h1.trans HZ.out
  have H2 := Lib.hid h2
  clear h1 h2 b2
  have c0 := b1.c0
  have c1 := b1.c1
  have f := b1.f
  have r := b1.set2 4 0
  have r0 := r.c0
  have r1 := r.c1
  clear b1 r
  go_wp2
  exact bodyPost_ret (v := .agg #[.int .u8 4, .int .i32 0]) (by simp [results, Tryz.results184, go_sem, r0, r1]) rfl ⟨rfl, H2.out _ _⟩

set_option maxRecDepth 100000 in
set_option maxHeartbeats 1600000 in
theorem doPopROk (z : Int) (h : Rng w F p most (zs ++ [z])) (x : Int) :
    Calls Tryz.prog 184 #[.pointer (some ⟨p, 0, none⟩), .agg #[.int .u8 4, .int .i32 x]] w fun e w' => e = .returned (.agg #[.int .u8 2, .int .i32 z]) ∧ Did F p most zs w w' := by
  go_enter Tryz.func184, Tryz.ntmps184
  go_upto_region 1 with (fail)
  generalize hW : (w.alloc (.cells #[.int .u8 4, .int .i32 x] 38)).alloc (.cells #[.int .u8 0, .int .i32 0] 74) = W
  obtain ⟨o0, o1, b0, hb⟩ := begunDo w _ _ W hW
  clear hW
  have HX := Lib.hid (fun w1 (d : Did F p most zs W w1) => d.boxed h.foot hb (g := w.heap.size + 1) (by omega) b0.lt)
  have HZ := Lib.hid b0
  have H := Lib.hid (h.fresh hb)
  clear h hb b0
  have C := popROk z H.out
  go_wp2_with fail
  refine C.mono ?_
  clear C
  rintro e w1 ⟨rfl, d⟩
  have HD := Lib.hid d
  clear d o0 o1
  go_wp2_with fail
  refine (takenTrue w1 z).mono ?_
  rintro e w2 ⟨rfl, b2⟩
  obtain ⟨h1, h2⟩ := HX.out w2 (HD.out.fresh b2)
  have b1 : RBox w2 (w.heap.size + 1) 0 0 := h1.trans HZ.out
  have H2 := Lib.hid h2
  clear h1 h2 b2
  have c0 := b1.c0
  have c1 := b1.c1
  have f := b1.f
  have r := b1.set2 2 z
  have r0 := r.c0
  have r1 := r.c1
  clear b1 r
  go_wp2
  exact bodyPost_ret (v := .agg #[.int .u8 2, .int .i32 z]) (by simp [results, Tryz.results184, go_sem, r0, r1]) rfl ⟨rfl, H2.out _ _⟩

set_option maxRecDepth 100000 in
set_option maxHeartbeats 1600000 in
theorem doPopRNone (h : Rng w F p most []) (x : Int) :
    Calls Tryz.prog 184 #[.pointer (some ⟨p, 0, none⟩), .agg #[.int .u8 4, .int .i32 x]] w fun e w' => e = .returned (.agg #[.int .u8 4, .int .i32 0]) ∧ Did F p most [] w w' := by
  go_enter Tryz.func184, Tryz.ntmps184
  go_upto_region 1 with (fail)
  generalize hW : (w.alloc (.cells #[.int .u8 4, .int .i32 x] 38)).alloc (.cells #[.int .u8 0, .int .i32 0] 74) = W
  obtain ⟨o0, o1, b0, hb⟩ := begunDo w _ _ W hW
  clear hW
  have HX := Lib.hid (fun w1 (d : Did F p most [] W w1) => d.boxed h.foot hb (g := w.heap.size + 1) (by omega) b0.lt)
  have HZ := Lib.hid b0
  have H := Lib.hid (h.fresh hb)
  clear h hb b0
  have C := popRNone H.out
  go_wp2_with fail
  refine C.mono ?_
  clear C
  rintro e w1 ⟨rfl, rfl⟩
  clear o0 o1
  go_wp2_with fail
  refine (takenFalse W 0).mono ?_
  rintro e w2 ⟨rfl, b2⟩
  obtain ⟨h1, h2⟩ := HX.out w2 (H.out.did b2)
  have b1 : RBox w2 (w.heap.size + 1) 0 0 := h1.trans HZ.out
  have H2 := Lib.hid h2
  clear h1 h2 b2
  have c0 := b1.c0
  have c1 := b1.c1
  have f := b1.f
  have r := b1.set2 4 0
  have r0 := r.c0
  have r1 := r.c1
  clear b1 r
  go_wp2
  exact bodyPost_ret (v := .agg #[.int .u8 4, .int .i32 0]) (by simp [results, Tryz.results184, go_sem, r0, r1]) rfl ⟨rfl, H2.out _ _⟩

set_option maxRecDepth 100000 in
set_option maxHeartbeats 1600000 in
theorem doBad (h : Rng w F p most zs) (x : Int) (k : Int) (n1 : k ≠ 1) (n2 : k ≠ 2) (n3 : k ≠ 3) (n4 : k ≠ 4) :
    Calls Tryz.prog 184 #[.pointer (some ⟨p, 0, none⟩), .agg #[.int .u8 k, .int .i32 x]] w fun e w' => e = .returned (.agg #[.int .u8 5, .int .i32 0]) ∧ Did F p most zs w w' := by
  have d1 : (k == (1 : Int)) = false := beq_eq_false_iff_ne.2 n1
  have d2 : (k == (2 : Int)) = false := beq_eq_false_iff_ne.2 n2
  have d3 : (k == (3 : Int)) = false := beq_eq_false_iff_ne.2 n3
  have d4 : (k == (4 : Int)) = false := beq_eq_false_iff_ne.2 n4
  clear n1 n2 n3 n4
  go_enter Tryz.func184, Tryz.ntmps184
  go_upto_region 1 with (fail)
  generalize hW : (w.alloc (.cells #[.int .u8 k, .int .i32 x] 38)).alloc (.cells #[.int .u8 0, .int .i32 0] 74) = W
  obtain ⟨o0, o1, b0, hb⟩ := begunDo w _ _ W hW
  clear hW
  have HX := Lib.hid (fun w1 (d : Did F p most zs W w1) => d.boxed h.foot hb (g := w.heap.size + 1) (by omega) b0.lt)
  have HZ := Lib.hid b0
  have H := Lib.hid (h.fresh hb)
  clear h hb b0
  obtain ⟨h1, h2⟩ := HX.out W (H.out.did (Below.refl _ _))
  have b1 := HZ.out
  have H2 := Lib.hid h2
  clear h1 h2
  have c0 := b1.c0
  have c1 := b1.c1
  have f := b1.f
  have r := b1.set2 5 0
  have r0 := r.c0
  have r1 := r.c1
  clear b1 r
  go_wp2
  exact bodyPost_ret (v := .agg #[.int .u8 5, .int .i32 0]) (by simp [results, Tryz.results184, go_sem, r0, r1]) rfl ⟨rfl, H2.out _ _⟩

theorem doAny (h : Rng w F p most zs) (k x : Int) :
    Calls Tryz.prog 184 #[.pointer (some ⟨p, 0, none⟩), .agg #[.int .u8 k, .int .i32 x]] w fun e w' => e = .returned (.agg #[.int .u8 (dqC most zs k), .int .i32 (dqV zs k)]) ∧ Did F p most (dqL most zs k x) w w' := by
  by_cases h1 : k = 1
  · subst h1
    by_cases hf : (zs.length : Int) < most
    · exact (doPushLOk h x hf).mono fun _ _ ⟨a, b⟩ => ⟨by simpa [dqC, dqV, hf] using a, by simpa [dqL, hf] using b⟩
    · exact (doPushLFull h x hf).mono fun _ _ ⟨a, b⟩ => ⟨by simpa [dqC, dqV, hf] using a, by simpa [dqL, hf] using b⟩
  by_cases h2 : k = 2
  · subst h2
    by_cases hf : (zs.length : Int) < most
    · exact (doPushROk h x hf).mono fun _ _ ⟨a, b⟩ => ⟨by simpa [dqC, dqV, hf] using a, by simpa [dqL, hf] using b⟩
    · exact (doPushRFull h x hf).mono fun _ _ ⟨a, b⟩ => ⟨by simpa [dqC, dqV, hf] using a, by simpa [dqL, hf] using b⟩
  by_cases h3 : k = 3
  · subst h3
    cases zs with
    | nil => exact (doPopLNone h x).mono fun _ _ ⟨a, b⟩ => ⟨by simpa [dqC, dqV] using a, by simpa [dqL] using b⟩
    | cons z zs => exact (doPopLOk z h x).mono fun _ _ ⟨a, b⟩ => ⟨by simpa [dqC, dqV] using a, by simpa [dqL] using b⟩
  by_cases h4 : k = 4
  · subst h4
    rcases List.eq_nil_or_concat zs with rfl | ⟨ys, y, rfl⟩
    · exact (doPopRNone h x).mono fun _ _ ⟨a, b⟩ => ⟨by simpa [dqC, dqV] using a, by simpa [dqL] using b⟩
    · rw [List.concat_eq_append] at h ⊢
      exact (doPopROk y h x).mono fun _ _ ⟨a, b⟩ => ⟨by simpa [dqC, dqV] using a, by simpa [dqL] using b⟩
  exact (doBad h x k h1 h2 h3 h4).mono fun _ _ ⟨a, b⟩ => ⟨by simpa [dqC, dqV, h1, h2, h3, h4] using a, by simpa [dqL, h1, h2, h3, h4] using b⟩
end

/-- A deque all of whose blocks stand from B on. -/
def Rng1 (w : World) (B p : Nat) (most : Int) (zs : List Int) : Prop := ∃ F, Rng w F p most zs ∧ ∀ g, F g → B ≤ g

section
variable {w w' : World} {F : Nat → Prop} {B p : Nat} {most : Int} {zs : List Int}

theorem Did.one {zs' : List Int} (h : Rng w F p most zs) (hF : ∀ g, F g → B ≤ g) (d : Did F p most zs' w w') : Rng1 w' B p most zs' ∧ Below B w w' := by
  obtain ⟨F', s, wr, l⟩ := d
  have hB : B ≤ w.heap.size := Nat.le_of_lt (Nat.lt_of_le_of_lt (hF p h.in) h.lt)
  refine ⟨⟨F', s, fun g hg => ?_⟩, wr.below hB hF⟩
  rcases l g hg with h1 | h1
  · exact hF g h1
  · omega
theorem Rng1.fresh (h : Rng1 w B p most zs) (hb : Below w.heap.size w w') : Rng1 w' B p most zs := by obtain ⟨F, s, hF⟩ := h; exact ⟨F, s.fresh hb, hF⟩
theorem Rng1.len (h : Rng1 w B p most zs) : zs.length ≤ 1000 := by obtain ⟨F, s, _⟩ := h; exact s.len
theorem Rng1.room (h : Rng1 w B p most zs) : (zs.length : Int) ≤ most := by obtain ⟨F, s, _⟩ := h; exact s.room
theorem Rng1.base (h : Rng1 w B p most zs) : B ≤ w.heap.size := by obtain ⟨F, s, hF⟩ := h; exact Nat.le_of_lt (Nat.lt_of_le_of_lt (hF p s.in) s.lt)

theorem items1 (h : Rng1 w B p most zs) : Calls Tryz.prog 176 #[.pointer (some ⟨p, 0, none⟩)] w (Told w zs) := by
  obtain ⟨F, s, _⟩ := h; exact itemsAny s
end

end Go.Proofs.YtkbhemaijbkpbaaGreat.D10
namespace Go.Proofs.YtkbhemaijbkpbaaGreat.D10
theorem infoI : (Tryz.prog.info? 3).map (fun i => (i.zero, i.size, i.bytes)) = some (some (.int .i64 0), 1, 8) := by kernel_rfl
end Go.Proofs.YtkbhemaijbkpbaaGreat.D10
namespace Go.Proofs.YtkbhemaijbkpbaaGreat.D10
open Go.RowKit

/-- How many of the items that were there are left, and the places of the pushes that wait, behind an operation. -/
def lineStep (most : Int) (s : Int × List Int) (k kind : Int) : Int × List Int :=
  if kind = 1 then (if s.1 + s.2.length < most then (s.1, s.2 ++ [k]) else s)
  else if kind = 2 then (if s.2 = [] then (if 0 < s.1 then (s.1 - 1, []) else s) else (s.1, s.2.dropLast))
  else s
/-- And behind the first ones of many, of these kinds. -/
def lineAt (most there : Int) (ks : Nat → Int) : Nat → Int × List Int
  | 0 => (there, [])
  | k + 1 => lineStep most (lineAt most there ks k) k (ks k)
/-- The code that one is told. -/
def lineC (most : Int) (s : Int × List Int) (kind : Int) : Int :=
  if kind = 1 then (if s.1 + s.2.length < most then 1 else 3)
  else if kind = 2 then (if s.2 = [] then (if 0 < s.1 then 2 else 4) else 2)
  else 5
section
variable {most there : Int} {ks : Nat → Int} {n k : Nat}
/-- What holds of a line. -/
structure LineOk (most there : Int) (k : Nat) (s : Int × List Int) : Prop where
  low : 0 ≤ s.1
  high : s.1 ≤ there
  room : s.1 + s.2.length ≤ most
  places : ∀ j ∈ s.2, 0 ≤ j ∧ j < k

theorem lineStep_ok {s : Int × List Int} (h : LineOk most there k s) (kind : Int) : LineOk most there (k + 1) (lineStep most s k kind) := by
  obtain ⟨h1, h2, h3, h4⟩ := h
  have up : ∀ j ∈ s.2, 0 ≤ j ∧ j < ((k + 1 : Nat) : Int) := fun j hj => by have := h4 j hj; omega
  unfold lineStep
  split
  · split
    · refine ⟨h1, h2, by simp; omega, fun j hj => ?_⟩
      simp only [List.mem_append, List.mem_singleton] at hj
      rcases hj with hj | rfl
      · exact up j hj
      · omega
    · exact ⟨h1, h2, h3, up⟩
  · split
    · split
      · split
        · refine ⟨by omega, by omega, ?_, fun j hj => by simp at hj⟩
          simp; omega
        · exact ⟨h1, h2, h3, up⟩
      · refine ⟨h1, h2, ?_, fun j hj => up j (List.dropLast_subset _ hj)⟩
        simp only [List.length_dropLast]; omega
    · exact ⟨h1, h2, h3, up⟩
theorem lineAt_ok (h0 : 0 ≤ there) (h1 : there ≤ most) (ks : Nat → Int) : ∀ k, LineOk most there k (lineAt most there ks k)
  | 0 => ⟨h0, Int.le_refl _, by simpa [lineAt] using h1, fun j hj => by simp [lineAt] at hj⟩
  | k + 1 => by
    have h := lineStep_ok (lineAt_ok h0 h1 ks k) (ks k)
    simpa [lineAt] using h

end

section
variable {w w' : World} {b : Nat} {k : IntKind} {t : TypeId} {xs : List Int}
end

/-- A variable that holds a list, whose block is b. -/
def SBx (w : World) (B : Nat) (t : TypeId) (b n : Nat) : Prop := w.heap[B]? = some (.cells #[.slice (some ⟨b, 0, none⟩) n n] t (0, 0))
section
variable {w w' : World} {B b n : Nat} {t : TypeId}
theorem SBx.lt (h : SBx w B t b n) : B < w.heap.size := lt_of_block h
theorem SBx.keep (h : SBx w B t b n) (hb : w'.heap[B]? = w.heap[B]?) : SBx w' B t b n := hb.trans h
theorem SBx.cell (h : SBx w B t b n) : w.cell? ⟨B, 0, none⟩ = some (.slice (some ⟨b, 0, none⟩) n n) := by unfold SBx at h; simp [World.cell?, h]
theorem SBx.new (w : World) (t : TypeId) (b n : Nat) : SBx (w.alloc (.cells #[.slice (some ⟨b, 0, none⟩) n n] t)) w.heap.size t b n := heap_alloc_new w _
end

section
variable {most there : Int} {ks : Nat → Int} {n k : Nat}
end

/-- How many items there may be said to be, of those that may be. -/
def haveOf (x m : Int) : Int := if x < 0 then 0 else if m < x then m else x
theorem haveOf_in (x m : Int) (hm : 0 ≤ m) : 0 ≤ haveOf x m ∧ haveOf x m ≤ m := by unfold haveOf; split <;> (try split) <;> omega

/-- The kinds of operations. -/
def kindsOf (os : List (Int × Int)) (k : Nat) : Int := (os.getD k (0, 0)).1

section
variable {w w' : World} {b i : Nat} {rs : List (Int × Int)}
end

theorem infoU8 : (Tryz.prog.info? 5).map (fun i => (i.zero, i.size, i.bytes)) = some (some (.int .u8 0), 1, 1) := by kernel_rfl

theorem haveOf_cases (x m : Int) (hm : 0 ≤ m) : ((x < 0 ∧ m = 0) ∧ haveOf x m = 0) ∨ ((x < 0 ∧ 0 < m) ∧ haveOf x m = 0) ∨ ((x = 0 ∧ m = 0) ∧ haveOf x m = 0) ∨ ((x = 0 ∧ 0 < m) ∧ haveOf x m = 0) ∨ ((0 < x ∧ x < m) ∧ haveOf x m = x) ∨ ((0 < x ∧ x = m) ∧ haveOf x m = x) ∨ ((0 < m ∧ m < x) ∧ haveOf x m = m) ∨ ((m = 0 ∧ 0 < x) ∧ haveOf x m = 0) := by
  unfold haveOf
  rcases (show (x < 0 ∧ m = 0) ∨ (x < 0 ∧ 0 < m) ∨ (x = 0 ∧ m = 0) ∨ (x = 0 ∧ 0 < m) ∨ (0 < x ∧ x < m) ∨ (0 < x ∧ x = m) ∨ (0 < m ∧ m < x) ∨ (m = 0 ∧ 0 < x) from by omega) with h | h | h | h | h | h | h | h
  · left; exact ⟨h, if_pos h.1⟩
  · right; left; exact ⟨h, if_pos h.1⟩
  · right; right; left; exact ⟨h, by rw [if_neg (by omega), if_neg (by omega)]; exact h.1⟩
  · right; right; right; left; exact ⟨h, by rw [if_neg (by omega), if_neg (by omega)]; exact h.1⟩
  · right; right; right; right; left; exact ⟨h, by rw [if_neg (by omega), if_neg (by omega)]⟩
  · right; right; right; right; right; left; exact ⟨h, by rw [if_neg (by omega), if_neg (by omega)]⟩
  · right; right; right; right; right; right; left; exact ⟨h, by rw [if_neg (by omega), if_pos h.2]⟩
  · right; right; right; right; right; right; right; exact ⟨h, by rw [if_neg (by omega), if_pos (by omega)]; exact h.1⟩

theorem mostOf_cases (m : Int) : (m < 0 ∧ mostOf m = 0) ∨ (m = 0 ∧ mostOf m = 0) ∨ ((0 < m ∧ m < 1000) ∧ mostOf m = m) ∨ (m = 1000 ∧ mostOf m = 1000) ∨ (1000 < m ∧ mostOf m = 1000) := by
  unfold mostOf
  rcases (show m < 0 ∨ m = 0 ∨ (0 < m ∧ m < 1000) ∨ m = 1000 ∨ 1000 < m from by omega) with h | h | h | h | h
  · left; exact ⟨h, if_pos h⟩
  · subst h; right; left; exact ⟨rfl, rfl⟩
  · right; right; left; exact ⟨h, by rw [if_neg (by omega), if_neg (by omega)]⟩
  · subst h; right; right; right; left; exact ⟨rfl, rfl⟩
  · right; right; right; right; exact ⟨h, by rw [if_neg (by omega), if_pos h]⟩

theorem _root_.Go.Proofs.YtkbhemaijbkpbaaGreat.OpsAt.take {w : World} {ao : Option Addr} {n : Nat} {os : List (Int × Int)} (h : OpsAt w ao n os) {k : Nat} (hk : k ≤ n) : OpsAt w ao k (os.take k) := by
  refine ⟨by simp [h.1]; omega, fun hp => ?_⟩
  obtain ⟨b, off, e, hb, hc⟩ := h.2 (by omega)
  refine ⟨b, off, e, hb, fun i hi => ?_⟩
  have := hc i (by omega)
  simpa [List.getD, hi] using this

theorem _root_.Go.Proofs.YtkbhemaijbkpbaaGreat.Reads.front {k : IntKind} {w : World} {ao : Option Addr} {n m : Nat} {zs : List Int} (h : Reads k w ao n zs) (hm : m ≤ n) : Reads k w ao m (zs.take m) := by
  refine ⟨by rw [List.length_take, h.1]; omega, fun hp => ?_⟩
  obtain ⟨b, off, e, hb, hc⟩ := h.2 (by omega)
  refine ⟨b, off, e, hb, fun i hi => ?_⟩
  rw [hc i (by omega)]
  simp [List.getD, hi]

section
variable {most there t : Int} {ps : List Int} {k kind : Int}
end

/-- No block is both ones'. -/
def Off2 (v v' : Value) : Prop := ∀ g, v.ownBlock = some g → v'.ownBlock ≠ some g
theorem Off2.symm {v v' : Value} (h : Off2 v v') : Off2 v' v := fun g a b => h g b a
theorem Off2.nil (v : Value) : Off2 (.slice none 0 0) v := fun g h => by simp [Value.ownBlock] at h

/-- Three rows of one's own, none of which lies in another one's block. -/
structure R3 (B : Nat) (w0 : World) (v1 v2 v3 : Value) (l1 l2 l3 : List Int) (W : World) : Prop where
  o1 : W.ownsRow B 3 1 v1 l1.length (l1.map (Value.int .i64))
  o2 : W.ownsRow B 3 1 v2 l2.length (l2.map (Value.int .i64))
  o3 : W.ownsRow B 5 1 v3 l3.length (l3.map (Value.int .u8))
  d12 : Off2 v1 v2
  d13 : Off2 v1 v3
  d23 : Off2 v2 v3
  b : Below B w0 W
  s : B ≤ W.heap.size

section
variable {B : Nat} {w0 W W' : World} {v1 v2 v3 v' : Value} {l1 l2 l3 : List Int} {x : Int} {o : Obj}
theorem R3.start (w : World) : R3 w.heap.size w (.slice none 0 0) (.slice none 0 0) (.slice none 0 0) [] [] [] w :=
  ⟨World.ownsRow_nil _ _ _ _, World.ownsRow_nil _ _ _ _, World.ownsRow_nil _ _ _ _, Off2.nil _, Off2.nil _, Off2.nil _, Below.refl _ _, Nat.le_refl _⟩
theorem R3.alloc (h : R3 B w0 v1 v2 v3 l1 l2 l3 W) (o : Obj) : R3 B w0 v1 v2 v3 l1 l2 l3 (W.alloc o) :=
  ⟨h.o1.alloc _, h.o2.alloc _, h.o3.alloc _, h.d12, h.d13, h.d23, h.b.alloc h.s _, Nat.le_trans h.s (by simp)⟩
theorem R3.cut {g cap q : Nat} {z : Int} (h : R3 B w0 (.slice (some ⟨g, 0, none⟩) (q + 1) cap) v2 v3 (l1 ++ [z]) l2 l3 W) (hq : q = l1.length) : R3 B w0 (.slice (some ⟨g, 0, none⟩) q cap) v2 v3 l1 l2 l3 W := by
  subst hq
  have ho := h.o1
  simp only [List.length_append, List.length_cons, List.length_nil, Nat.zero_add] at ho
  have hc := own_cut ho (Nat.le_succ l1.length)
  exact ⟨by simpa [List.take_append] using hc, h.o2, h.o3, h.d12, h.d13, h.d23, h.b, h.s⟩
end

section
variable {most there : Int} {ks : Nat → Int} {n : Nat}
end

/-- Bools in a block of their own. -/
def BRw (w : World) (b : Nat) (bs : List Bool) : Prop := w.heap[b]? = some (.cells (bs.map Value.bool).toArray 4 (0, 0))
section
variable {w w' : World} {b : Nat} {bs : List Bool}
theorem BRw.lt (h : BRw w b bs) : b < w.heap.size := lt_of_block h
theorem BRw.keep (h : BRw w b bs) (hb : w'.heap[b]? = w.heap[b]?) : BRw w' b bs := hb.trans h
theorem BRw.free (h : BRw w b bs) (j : Nat) : w.frozen? ⟨b, j, none⟩ = false := by unfold BRw at h; simp [World.frozen?, h]
theorem BRw.cell (h : BRw w b bs) {i : Nat} (hi : i < bs.length) : w.cell? ⟨b, i, none⟩ = some (.bool (bs.getD i false)) := by
  unfold BRw at h
  simp [World.cell?, h, List.getD, hi]
theorem BRw.set (h : BRw w b bs) (i : Nat) (x : Bool) : BRw (w.setCell ⟨b, i, none⟩ (.bool x)) b (bs.set i x) := by
  unfold BRw at h ⊢
  rw [heap_setCell_same w b i _ _ _ h]
  simp
end
theorem madeBools {w w1 : World} {n : Nat} (ho : w1.ownsRow w.heap.size 4 1 (.slice (some ⟨w.heap.size, 0, none⟩) n n) n (madeCells (Value.bool false).cells (n * 1)).toList) (hg : w.grownBy w1 none) :
    BRw w1 w.heap.size (List.replicate n false) ∧ Below w.heap.size w w1 := by
  have hr := rowWhole ho
  rw [show (Value.bool false).cells = #[Value.bool false] from rfl, Nat.mul_one, toList_madeCells_one] at hr
  exact ⟨by unfold BRw; rw [hr]; simp, (Below.refl _ _).grown hg (Nat.le_refl _) (by simp)⟩

end Go.Proofs.YtkbhemaijbkpbaaGreat.D10
