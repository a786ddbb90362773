/-
  A list on levels in the model's world: towers, each in a block of its own, and on each level a chain that begins at the list's own block; how a tower is linked in. Conditions: none; no Go function is looked at here.
-/
import Derived.Test.YtjcdbdhdmalfaaaReach
namespace Go.Proofs.Ytjcdbdhdmalfaaa
open Go.RowKit

/-- A tower: its block, its item's value, its height. -/
structure Nd where
  b : Nat
  v : Int
  h : Nat

/-- The blocks of those that are on a level. -/
def lv (ns : List Nd) (j : Nat) : List Nat := (ns.filter fun n => decide (j < n.h)).map Nd.b
def blks (ns : List Nd) : List Nat := ns.map Nd.b

theorem lv_append (A B : List Nd) (j : Nat) : lv (A ++ B) j = lv A j ++ lv B j := by simp [lv]
theorem blks_append (A B : List Nd) : blks (A ++ B) = blks A ++ blks B := by simp [blks]
theorem lv_in {n : Nd} (ns : List Nd) {j : Nat} (h : j < n.h) : lv (n :: ns) j = n.b :: lv ns j := by simp [lv, h]
theorem lv_out {n : Nd} (ns : List Nd) {j : Nat} (h : ¬ j < n.h) : lv (n :: ns) j = lv ns j := by simp [lv, h]
theorem lv_mem {ns : List Nd} {j c : Nat} (h : c ∈ lv ns j) : ∃ n ∈ ns, n.b = c ∧ j < n.h := by
  simp only [lv, List.mem_map, List.mem_filter, decide_eq_true_eq] at h
  obtain ⟨n, ⟨h1, h2⟩, h3⟩ := h
  exact ⟨n, h1, h3, h2⟩
theorem lv_of {ns : List Nd} {j : Nat} {n : Nd} (hn : n ∈ ns) (h : j < n.h) : n.b ∈ lv ns j := by
  simp only [lv, List.mem_map, List.mem_filter, decide_eq_true_eq]
  exact ⟨n, ⟨hn, h⟩, rfl⟩
theorem lv_sub (ns : List Nd) (j : Nat) : (lv ns j).Sublist (blks ns) := List.Sublist.map _ List.filter_sublist
theorem lv_blks {ns : List Nd} {j c : Nat} (h : c ∈ lv ns j) : c ∈ blks ns := (lv_sub ns j).subset h

/-- The last one of a chain. -/
def lst : Nat → List Nat → Nat
  | p, [] => p
  | _, c :: cs => lst c cs
theorem lst_append : ∀ (p : Nat) (L R : List Nat), lst p (L ++ R) = lst (lst p L) R
  | _, [], _ => rfl
  | _, c :: cs, R => lst_append c cs R
theorem lst_mem : ∀ (p : Nat) (L : List Nat), lst p L ∈ p :: L
  | p, [] => by simp [lst]
  | p, c :: cs => by have := lst_mem c cs; simp only [lst, List.mem_cons] at *; exact .inr this
theorem lst_split : ∀ {L : List Nat} {p q : Nat}, q ∈ p :: L → ∃ L1 L2, L = L1 ++ L2 ∧ lst p L1 = q
  | [], p, q, h => ⟨[], [], rfl, (show q = p by simpa using h).symm⟩
  | c :: cs, p, q, h => by
    by_cases e : q = p
    · exact ⟨[], c :: cs, rfl, e.symm⟩
    · obtain ⟨L1, L2, h1, h2⟩ := lst_split (p := c) (q := q) (L := cs) (by simpa [e] using h)
      exact ⟨c :: L1, L2, by rw [h1]; rfl, h2⟩

/-- A place behind some towers. -/
def pos (p : Nat) (A : List Nd) (j : Nat) : Nat := lst p (lv A j)
theorem pos_mem (p : Nat) (A : List Nd) (j : Nat) : pos p A j ∈ p :: lv A j := lst_mem _ _
theorem pos_snoc (p : Nat) (A : List Nd) (t : Nd) : pos p (A ++ [t]) = upd (pos p A) t.b t.h := by
  funext j
  unfold pos upd
  rw [lv_append, lst_append]
  by_cases h : j < t.h
  · rw [lv_in [] h, if_pos h]; rfl
  · rw [lv_out [] h, if_neg h]; rfl

def nxv : List Nat → Value
  | [] => .pointer none
  | c :: _ => .pointer (some ⟨c, 0, none⟩)

/-- A chain on a level. -/
def Ch (w : World) (j : Nat) : Nat → List Nat → Prop
  | p, [] => w.cell? ⟨p, 2 + j, none⟩ = some (.pointer none)
  | p, c :: cs => w.cell? ⟨p, 2 + j, none⟩ = some (.pointer (some ⟨c, 0, none⟩)) ∧ Ch w j c cs

section
variable {w w' : World} {j p t : Nat} {L R : List Nat}
theorem Ch.first (h : Ch w j p L) : w.cell? ⟨p, 2 + j, none⟩ = some (nxv L) := by
  cases L with
  | nil => exact h
  | cons c cs => exact h.1
theorem Ch.split : ∀ {L : List Nat} {p : Nat}, Ch w j p (L ++ R) → Ch w j (lst p L) R
  | [], _, h => h
  | _ :: cs, _, h => Ch.split (L := cs) h.2
theorem Ch.keep : ∀ {L : List Nat} {p : Nat}, Ch w j p L → (∀ b, b ∈ p :: L → w'.cell? ⟨b, 2 + j, none⟩ = w.cell? ⟨b, 2 + j, none⟩) → Ch w' j p L
  | [], p, h, hc => (hc p (by simp)).trans h
  | c :: cs, p, h, hc => ⟨(hc p (by simp)).trans h.1, Ch.keep h.2 fun b hb => hc b (List.mem_cons_of_mem _ hb)⟩
theorem Ch.cons (h1 : w.cell? ⟨t, 2 + j, none⟩ = some (nxv R)) (h2 : ∀ c cs, R = c :: cs → Ch w j c cs) : Ch w j t R := by
  cases R with
  | nil => exact h1
  | cons c cs => exact ⟨h1, h2 c cs rfl⟩
theorem cellFar {W : World} {b c o : Nat} (hb : b ≠ c) (u : Value) : (W.setCell ⟨c, o, none⟩ u).cell? ⟨b, o, none⟩ = W.cell? ⟨b, o, none⟩ :=
  World.cell?_of_block (Below.heap_setCell _ _ _ _ hb)
theorem cellOff {W : World} {b c o o' : Nat} (ho : o' ≠ o) (u : Value) : (W.setCell ⟨c, o, none⟩ u).cell? ⟨b, o', none⟩ = W.cell? ⟨b, o', none⟩ :=
  World.cell?_setCell_other _ _ _ _ (fun e => ho (by injection e with _ e2; exact e2.symm))
theorem Ch.off (h : Ch w j p L) {o b : Nat} (ho : 2 + j ≠ o) (u : Value) : Ch (w.setCell ⟨b, o, none⟩ u) j p L := h.keep fun _ _ => cellOff ho u

/-- A tower is linked in. -/
theorem Ch.insert : ∀ {L : List Nat} {p : Nat}, Ch w j p (L ++ R) → (p :: (L ++ R)).Nodup → t ∉ p :: (L ++ R) → ∀ {u : Value}, w.cell? ⟨t, 2 + j, none⟩ = some u →
    Ch ((w.setCell ⟨t, 2 + j, none⟩ (nxv R)).setCell ⟨lst p L, 2 + j, none⟩ (.pointer (some ⟨t, 0, none⟩))) j p (L ++ t :: R)
  | [], p, h, hnd, ht, u, hu => by
    have hpt : p ≠ t := fun e => ht (by simp [e])
    have hf := h.first
    refine ⟨cellSame _ ((cellFar hpt _).trans hf), ?_⟩
    refine Ch.cons ((cellFar (Ne.symm hpt) _).trans (cellSame _ hu)) fun c cs e => ?_
    subst e
    have h2 := (show Ch w j p (c :: cs) from h).2
    refine h2.keep fun b hb => ?_
    have hbp : b ≠ p := fun e => by
      simp only [List.nil_append, List.nodup_cons] at hnd
      exact hnd.1 (e ▸ hb)
    have hbt : b ≠ t := fun e => ht (by subst e; simp only [List.nil_append]; exact List.mem_cons_of_mem _ hb)
    exact (cellFar hbp _).trans (cellFar hbt _)
  | c :: L, p, h, hnd, ht, u, hu => by
    have hpt : p ≠ t := fun e => ht (by simp [e])
    simp only [List.cons_append, List.nodup_cons] at hnd
    have hpl : p ≠ lst c L := fun e => hnd.1 (by
      have := lst_mem c L
      rw [← e] at this
      simp only [List.mem_cons, List.mem_append] at this ⊢
      rcases this with h1 | h1
      · exact .inl h1
      · exact .inr (.inl h1))
    refine ⟨(cellFar hpl _).trans ((cellFar hpt _).trans h.1), ?_⟩
    exact Ch.insert (L := L) (p := c) h.2 (by simpa using hnd.2) (fun e => ht (List.mem_cons_of_mem _ e)) hu

/-- The first one behind p is passed by. -/
theorem Ch.drop {c : Nat} (h : Ch w j p (c :: L)) (hnd : (p :: c :: L).Nodup) : Ch (w.setCell ⟨p, 2 + j, none⟩ (nxv L)) j p L := by
  refine Ch.cons (cellSame _ h.1) fun d ds e => ?_
  subst e
  refine (show Ch w j c (d :: ds) from h.2).2.keep fun b hb => cellFar (fun e => ?_) _
  simp only [List.nodup_cons] at hnd
  exact hnd.1 (by rw [← e]; exact List.mem_cons_of_mem _ hb)
end

/-- A tower in memory: its value and its height. -/
def Tow (w : World) (n : Nd) : Prop :=
  ∃ cs : Array Value, w.heap[n.b]? = some (.cells cs 64 (0, 0)) ∧ cs.size = 10 ∧ cs[0]? = some (.int .i32 n.v) ∧ cs[1]? = some (.int .i64 n.h)

/-- A list's own block: how many there are, and may be; the links lie ahead of these. -/
def Hd (w : World) (p : Nat) (many most : Int) : Prop :=
  ∃ cs : Array Value, w.heap[p]? = some (.cells cs 66 (0, 0)) ∧ cs.size = 12 ∧ cs[10]? = some (.int .i64 many) ∧ cs[11]? = some (.int .i64 most)

section
variable {w w' : World} {n : Nd} {p : Nat} {many most : Int}
theorem Tow.lt (h : Tow w n) : n.b < w.heap.size := by obtain ⟨cs, h1, _⟩ := h; exact lt_of_block h1
theorem Tow.f (h : Tow w n) (j : Nat) : w.frozen? ⟨n.b, j, none⟩ = false := by obtain ⟨cs, h1, _⟩ := h; simp [World.frozen?, h1]
theorem Tow.c0 (h : Tow w n) : w.cell? ⟨n.b, 0, none⟩ = some (.int .i32 n.v) := by obtain ⟨cs, h1, _, h3, _⟩ := h; simp [World.cell?, h1, h3]
theorem Tow.c1 (h : Tow w n) : w.cell? ⟨n.b, 1, none⟩ = some (.int .i64 n.h) := by obtain ⟨cs, h1, _, _, h4⟩ := h; simp [World.cell?, h1, h4]
theorem Tow.ex (h : Tow w n) (j : Nat) (hj : j < 8) : ∃ u, w.cell? ⟨n.b, 2 + j, none⟩ = some u := by
  obtain ⟨cs, h1, h2, _⟩ := h
  exact ⟨cs[2 + j]'(by omega), by simp [World.cell?, h1]⟩
theorem Tow.keep (h : Tow w n) (hb : w'.heap[n.b]? = w.heap[n.b]?) : Tow w' n := by obtain ⟨cs, h1, h2⟩ := h; exact ⟨cs, hb.trans h1, h2⟩
theorem Tow.set (h : Tow w n) (b j : Nat) (u : Value) : Tow (w.setCell ⟨b, 2 + j, none⟩ u) n := by
  obtain ⟨cs, h1, h2, h3, h4⟩ := h
  by_cases e : b = n.b
  · subst e
    exact ⟨_, set_block h1 _ u, by simpa using h2, by rw [Array.getElem?_setIfInBounds_ne (by omega)]; exact h3, by rw [Array.getElem?_setIfInBounds_ne (by omega)]; exact h4⟩
  · exact ⟨cs, (Below.heap_setCell _ _ _ _ (Ne.symm e)).trans h1, h2, h3, h4⟩
theorem Tow.far (h : Tow w n) {b o : Nat} (hb : n.b ≠ b) (u : Value) : Tow (w.setCell ⟨b, o, none⟩ u) n := h.keep (Below.heap_setCell _ _ _ _ hb)

theorem Hd.lt (h : Hd w p many most) : p < w.heap.size := by obtain ⟨cs, h1, _⟩ := h; exact lt_of_block h1
theorem Hd.f (h : Hd w p many most) (j : Nat) : w.frozen? ⟨p, j, none⟩ = false := by obtain ⟨cs, h1, _⟩ := h; simp [World.frozen?, h1]
theorem Hd.c10 (h : Hd w p many most) : w.cell? ⟨p, 10, none⟩ = some (.int .i64 many) := by obtain ⟨cs, h1, _, h3, _⟩ := h; simp [World.cell?, h1, h3]
theorem Hd.c11 (h : Hd w p many most) : w.cell? ⟨p, 11, none⟩ = some (.int .i64 most) := by obtain ⟨cs, h1, _, _, h4⟩ := h; simp [World.cell?, h1, h4]
theorem Hd.keep (h : Hd w p many most) (hb : w'.heap[p]? = w.heap[p]?) : Hd w' p many most := by obtain ⟨cs, h1, h2⟩ := h; exact ⟨cs, hb.trans h1, h2⟩
theorem Hd.set (h : Hd w p many most) (b j : Nat) (hj : j < 8) (u : Value) : Hd (w.setCell ⟨b, 2 + j, none⟩ u) p many most := by
  obtain ⟨cs, h1, h2, h3, h4⟩ := h
  by_cases e : b = p
  · subst e
    exact ⟨_, set_block h1 _ u, by simpa using h2, by rw [Array.getElem?_setIfInBounds_ne (by omega)]; exact h3, by rw [Array.getElem?_setIfInBounds_ne (by omega)]; exact h4⟩
  · exact ⟨cs, (Below.heap_setCell _ _ _ _ (Ne.symm e)).trans h1, h2, h3, h4⟩
theorem Hd.count (h : Hd w p many most) (m : Int) : Hd (w.setCell ⟨p, 10, none⟩ (.int .i64 m)) p m most := by
  obtain ⟨cs, h1, h2, h3, h4⟩ := h
  exact ⟨_, set_block h1 _ _, by simpa using h2, by rw [Array.getElem?_setIfInBounds_self_of_lt (by omega)], by rw [Array.getElem?_setIfInBounds_ne (by omega)]; exact h4⟩
end

/-- A list on levels, whatever it counts. -/
structure Bod (w : World) (p : Nat) (many most : Int) (ns : List Nd) : Prop where
  hd : Hd w p many most
  tow : ∀ n ∈ ns, Tow w n
  ch : ∀ j, j < 8 → Ch w j p (lv ns j)
  nd : (p :: blks ns).Nodup
  hs : ∀ n ∈ ns, 1 ≤ n.h ∧ n.h ≤ 8

theorem Nodup.level {p : Nat} {ns : List Nd} (h : (p :: blks ns).Nodup) (j : Nat) : (p :: lv ns j).Nodup := h.sublist (List.Sublist.cons_cons p (lv_sub ns j))

section
variable {w w' : World} {p : Nat} {many most : Int} {ns : List Nd}
theorem Bod.keep (h : Bod w p many most ns) (hb : ∀ g ∈ p :: blks ns, w'.heap[g]? = w.heap[g]?) : Bod w' p many most ns := by
  refine ⟨h.hd.keep (hb p (by simp)), fun n hn => (h.tow n hn).keep (hb n.b (List.mem_cons_of_mem _ (List.mem_map_of_mem hn))), fun j hj => ?_, h.nd, h.hs⟩
  refine (h.ch j hj).keep fun b hb' => World.cell?_of_block (hb b ?_)
  rcases List.mem_cons.1 hb' with e | e
  · simp [e]
  · exact List.mem_cons_of_mem _ (lv_blks e)
theorem Bod.lt (h : Bod w p many most ns) : ∀ g ∈ p :: blks ns, g < w.heap.size := fun g hg => by
  rcases List.mem_cons.1 hg with e | e
  · rw [e]; exact h.hd.lt
  · obtain ⟨n, hn, rfl⟩ := List.mem_map.1 e
    exact (h.tow n hn).lt
theorem Bod.below (h : Bod w p many most ns) (hb : Below w.heap.size w w') : Bod w' p many most ns := h.keep fun g hg => hb.block g (h.lt g hg)
theorem Bod.count (h : Bod w p many most ns) (m : Int) : Bod (w.setCell ⟨p, 10, none⟩ (.int .i64 m)) p m most ns := by
  refine ⟨h.hd.count m, fun n hn => (h.tow n hn).far (fun e => ?_) _, fun j hj => (h.ch j hj).off (by omega) _, h.nd, h.hs⟩
  have := h.nd
  simp only [List.nodup_cons] at this
  exact this.1 (e ▸ List.mem_map_of_mem hn)
end

/-- What stands between two rounds that link a tower in: the levels below k have it. -/
structure Lnk (w : World) (p : Nat) (many most : Int) (A : List Nd) (t : Nd) (B : List Nd) (k : Nat) : Prop where
  hd : Hd w p many most
  tow : ∀ n ∈ A ++ t :: B, Tow w n
  ch : ∀ j, j < 8 → Ch w j p (if j < k then lv (A ++ t :: B) j else lv (A ++ B) j)

section
variable {w w' : World} {p : Nat} {many most : Int} {A B : List Nd} {t : Nd} {k : Nat}
theorem Lnk.start (h : Bod w p many most (A ++ B)) (ht : Tow w t) : Lnk w p many most A t B 0 :=
  ⟨h.hd, fun n hn => by
    simp only [List.mem_append, List.mem_cons] at hn
    rcases hn with hn | hn | hn
    · exact h.tow n (by simp [hn])
    · exact hn ▸ ht
    · exact h.tow n (by simp [hn]), fun j hj => by simpa using h.ch j hj⟩
theorem Lnk.load (h : Lnk w p many most A t B k) (hk : k < 8) : w.cell? ⟨pos p A k, 2 + k, none⟩ = some (nxv (lv B k)) := by
  have := h.ch k hk
  rw [if_neg (Nat.lt_irrefl k), lv_append] at this
  exact this.split.first
theorem nodupInsert {A B : List Nd} {t : Nd} (h : (p :: blks (A ++ t :: B)).Nodup) : (p :: blks (A ++ B)).Nodup ∧ t.b ∉ p :: blks (A ++ B) := by
  simp only [blks, List.map_append, List.map_cons, List.nodup_cons, List.mem_append, List.mem_cons, not_or, List.nodup_append] at *
  obtain ⟨⟨h1, h2, h3⟩, h4, ⟨h5, h6⟩, h7⟩ := h
  refine ⟨⟨⟨h1, h3⟩, h4, h6, fun a ha b hb => h7 a ha b (Or.inr hb)⟩, fun e => h2 e.symm, fun e => h7 _ e t.b (Or.inl rfl) rfl, h5⟩
theorem Lnk.round (h : Lnk w p many most A t B k) (hk : k < 8) (hkt : k < t.h) (hnd : (p :: blks (A ++ t :: B)).Nodup) :
    Lnk ((w.setCell ⟨t.b, 2 + k, none⟩ (nxv (lv B k))).setCell ⟨pos p A k, 2 + k, none⟩ (.pointer (some ⟨t.b, 0, none⟩))) p many most A t B (k + 1) := by
  obtain ⟨hn1, hn2⟩ := nodupInsert hnd
  refine ⟨(h.hd.set _ k hk _).set _ k hk _, fun n hn => ((h.tow n hn).set _ k _).set _ k _, fun j hj => ?_⟩
  have hj0 := h.ch j hj
  by_cases e : j = k
  · subst e
    rw [if_neg (Nat.lt_irrefl j)] at hj0
    rw [if_pos (by omega), lv_append, lv_in _ hkt]
    rw [lv_append] at hj0
    obtain ⟨u, hu⟩ := (h.tow t (by simp)).ex j hj
    have hl := Nodup.level hn1 j
    rw [lv_append] at hl
    exact hj0.insert hl (fun e => hn2 (by
      rw [← lv_append] at e
      rcases List.mem_cons.1 e with e | e
      · simp [e]
      · exact List.mem_cons_of_mem _ (lv_blks e))) hu
  · have hc : (if j < k + 1 then lv (A ++ t :: B) j else lv (A ++ B) j) = (if j < k then lv (A ++ t :: B) j else lv (A ++ B) j) := by
      by_cases h1 : j < k
      · rw [if_pos h1, if_pos (by omega)]
      · rw [if_neg h1, if_neg (by omega)]
    rw [hc]
    exact (hj0.off (by omega) _).off (by omega) _
theorem Lnk.done (h : Lnk w p many most A t B t.h) (hnd : (p :: blks (A ++ t :: B)).Nodup) (hs : ∀ n ∈ A ++ t :: B, 1 ≤ n.h ∧ n.h ≤ 8) : Bod w p many most (A ++ t :: B) := by
  refine ⟨h.hd, h.tow, fun j hj => ?_, hnd, hs⟩
  have := h.ch j hj
  by_cases e : j < t.h
  · rwa [if_pos e] at this
  · rw [if_neg e] at this
    rwa [lv_append, lv_out _ e, ← lv_append]
end

end Go.Proofs.Ytjcdbdhdmalfaaa
