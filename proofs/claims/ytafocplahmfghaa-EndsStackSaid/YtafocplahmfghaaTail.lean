/-
  A list that lies anywhere in its block, and may be written to behind its end as far as its room goes: cut at its front, appended to. Conditions: none; no Go function is looked at here.
-/
import Derived.Test.YtafocplahmfghaaTouch
import Derived.Deep.Upon
namespace Go.Proofs.Ytafocplahmfghaa
open Go.RowKit

theorem tape_setCells (b : Nat) : ∀ (vs : List Value) (o : Nat) (w : World), (w.setCells b o vs).tape = w.tape
  | [], _, _ => rfl
  | _ :: r, o, _ => (tape_setCells b r (o + 1) _).trans rfl
theorem size_setCells (b : Nat) : ∀ (vs : List Value) (o : Nat) (w : World), (w.setCells b o vs).heap.size = w.heap.size
  | [], _, _ => rfl
  | _ :: r, o, _ => (size_setCells b r (o + 1) _).trans (by simp [World.setCell])

theorem isSome_setCells (b : Nat) : ∀ (vs : List Value) (o : Nat) (w : World) (x : Addr), (w.cell? x).isSome = true → ((w.setCells b o vs).cell? x).isSome = true
  | [], _, _, _, h => h
  | v :: r, o, w, x, h => isSome_setCells b r (o + 1) _ x (by
    by_cases e : x = ⟨b, o, none⟩
    · subst e
      obtain ⟨u, hu⟩ := Option.isSome_iff_exists.1 h
      rw [cellSame v hu]; rfl
    · rw [World.cell?_setCell_other w _ x v (fun h => e h.symm)]; exact h)

theorem grownBy_setCells (w : World) (g o : Nat) (vs : List Value) : w.grownBy (w.setCells g o vs) (some g) :=
  ⟨World.os_setCells w g o vs, tape_setCells g vs o w, World.output_setCells w g o vs, Nat.le_of_eq (size_setCells g vs o w).symm, fun k hk hne => World.heap_setCells_other w g o vs hk (fun e => hne (by rw [e]))⟩

/-- A list of one cell each: where it lies, what it holds, what room it has. -/
def Tail (w : World) (v : Value) (xs : List Value) : Prop :=
  (v = .slice none 0 0 ∧ xs = []) ∨ ∃ g off cap, v = .slice (some ⟨g, off, none⟩) xs.length cap ∧ g < w.heap.size ∧ xs.length ≤ cap ∧ cap ≤ maxLen ∧
    (∀ j, j < xs.length → w.cell? ⟨g, off + j, none⟩ = xs[j]?) ∧ ∀ j, j < cap → (w.cell? ⟨g, off + j, none⟩).isSome = true ∧ w.frozen? ⟨g, off + j, none⟩ = false

section
variable {w w' : World} {v : Value} {xs : List Value}

theorem Tail.nothing : Tail w (.slice none 0 0) [] := .inl ⟨rfl, rfl⟩
theorem Tail.shape (h : Tail w v xs) : ∃ ao cap, v = .slice ao xs.length cap ∧ xs.length ≤ cap := by
  rcases h with ⟨rfl, rfl⟩ | ⟨g, off, cap, rfl, _, hc, _⟩
  · exact ⟨_, _, rfl, Nat.le_refl _⟩
  · exact ⟨_, _, rfl, hc⟩
theorem Tail.lt (h : Tail w v xs) {g : Nat} (hg : v.ownBlock = some g) : g < w.heap.size := by
  rcases h with ⟨rfl, _⟩ | ⟨g', off, cap, rfl, hl, _⟩
  · cases hg
  · simp only [Value.ownBlock, Option.some.injEq] at hg; omega
theorem Tail.keep (h : Tail w v xs) (hs : w.heap.size ≤ w'.heap.size) (hb : ∀ g, v.ownBlock = some g → w'.heap[g]? = w.heap[g]?) : Tail w' v xs := by
  rcases h with h | ⟨g, off, cap, rfl, hl, hc, hm, hx, hr⟩
  · exact .inl h
  · have e := hb g rfl
    refine .inr ⟨g, off, cap, rfl, Nat.lt_of_lt_of_le hl hs, hc, hm, fun j hj => (World.cell?_of_block (a := ⟨g, off + j, none⟩) e).trans (hx j hj), fun j hj => ?_⟩
    rw [World.cell?_of_block (a := ⟨g, off + j, none⟩) e, World.frozen?_of_block (a := ⟨g, off + j, none⟩) e]
    exact hr j hj
theorem Tail.drew (h : Tail w v xs) : Tail w.drew v xs := h.keep (Nat.le_refl _) (fun _ _ => rfl)
theorem Tail.alloc (h : Tail w v xs) (o : Obj) : Tail (w.alloc o) v xs := h.keep (by simp) (fun g hg => Below.heap_alloc _ _ _ (h.lt hg))
theorem Tail.other (h : Tail w v xs) {p : Addr} (hp : v.ownBlock ≠ some p.block) (u : Value) : Tail (w.setCell p u) v xs :=
  h.keep (by simp [World.setCell]) (fun g hg => Below.heap_setCell _ _ _ _ (by rintro rfl; exact hp hg))

/-- Where its first one is. -/
theorem Tail.first {x : Value} (h : Tail w v (x :: xs)) : ∃ g off cap, v = .slice (some ⟨g, off, none⟩) (xs.length + 1) cap ∧ xs.length + 1 ≤ cap ∧ w.cell? ⟨g, off, none⟩ = some x := by
  rcases h with ⟨_, h⟩ | ⟨g, off, cap, rfl, hl, hc, hm, hx, hr⟩
  · cases h
  · exact ⟨g, off, cap, rfl, hc, by simpa using hx 0 (by simp)⟩

/-- Its front cut off. -/
theorem Tail.rest {x : Value} {g off cap : Nat} (h : Tail w (.slice (some ⟨g, off, none⟩) (xs.length + 1) cap) (x :: xs)) : Tail w (.slice (if cap = 1 then some ⟨g, off, none⟩ else some ⟨g, off + 1, none⟩) xs.length (cap - 1)) xs := by
  rcases h with ⟨_, h⟩ | ⟨g', off', cap', hv, hl, hc, hm, hx, hr⟩
  · cases h
  · simp only [Value.slice.injEq, Option.some.injEq, Addr.mk.injEq, and_true] at hv
    obtain ⟨⟨rfl, rfl⟩, _, rfl⟩ := hv
    simp only [List.length_cons] at hc hx
    by_cases h1 : cap = 1
    · subst h1
      obtain rfl : xs = [] := List.eq_nil_of_length_eq_zero (by omega)
      rw [if_pos rfl]
      exact .inr ⟨g, off, 0, rfl, hl, by simp, by omega, fun j hj => by simp at hj, fun j hj => by omega⟩
    · rw [if_neg h1]
      refine .inr ⟨g, off + 1, cap - 1, rfl, hl, by omega, by omega, fun j hj => ?_, fun j hj => ?_⟩
      · have := hx (j + 1) (by omega)
        rw [show off + (j + 1) = off + 1 + j by omega] at this
        simpa using this
      · have := hr (j + 1) (by omega)
        rw [show off + (j + 1) = off + 1 + j by omega] at this
        exact this
end

section
variable {P : Program}
/-- append: in its room, or all in new memory. -/
theorem run_append_tail (w : World) (t ty e : TypeId) (i : TypeInfo) (z : Value) (bytes : Nat) (ht : P.underlying t = some (.slice e)) (hi : P.info? e = some i) (hz : i.zero = some z) (hsize : i.size = 1) (hby : i.bytes = bytes) (hzs : z.cells.size = 1)
    (v : Value) (xs : List Value) (h : Tail w v xs) (x : Value) (m : Nat) (news : List Value) (hs : Src P 1 t x m news w) (h63 : xs.length + m ≤ maxLen) (hbytes : (xs.length + m) * bytes ≤ 140737488355328) :
    ∃ v' w', (Builtin.append_ #[t, t] ty #[v, x]).run P w = .ok v' w' ∧ Tail w' v' (xs ++ news) ∧ w.grownBy w' v.ownBlock ∧ ∀ g, v'.ownBlock = some g → v.ownBlock = some g ∨ w.heap.size ≤ g := by
  have hsmall : xs.length + m ≤ 9223372036854775807 := by simp only [maxLen] at h63; omega
  have hnl := hs.newsLen
  rw [Nat.mul_one] at hnl
  subst hby
  -- the way that lays a new row
  have grow : ∀ (bs : Option Addr) (sc : Nat), v = .slice bs xs.length sc → sc < xs.length + m → (Builtin.firstCells i.size xs.length (.slice bs xs.length sc)).run P w.drew = .ok xs.toArray w.drew →
      ∃ v' w', (Builtin.append_ #[t, t] ty #[v, x]).run P w = .ok v' w' ∧ Tail w' v' (xs ++ news) ∧ w.grownBy w' v.ownBlock ∧ ∀ g, v'.ownBlock = some g → v.ownBlock = some g ∨ w.heap.size ≤ g := by
    rintro bs sc rfl hg hold
    have hs' : Src P i.size t x m news w := by rw [hsize]; exact hs
    have hrun := run_append_grow_src (P := P) w t t ty e i z ht hi hz bs xs.length sc xs hold x m news hs' hg (by omega) (growslice_fits hg hbytes)
    have hge := grownCap_ge w (xs.length + m) sc e
    have hcm := grownCap_le_maxLen w (xs.length + m) sc e h63
    refine ⟨_, _, hrun, .inr ⟨w.heap.size, 0, _, by rw [List.length_append, hnl], by simp, by rw [List.length_append, hnl]; exact hge, hcm, fun j hj => ?_, fun j hj => ⟨?_, World.frozen?_alloc_new w.drew _ _ _⟩⟩, ⟨rfl, rfl, rfl, by simp, fun k hk _ => Below.heap_alloc w.drew _ k hk⟩, fun g hg' => ?_⟩
    · have e1 : (w.drew.alloc (.cells ((xs ++ news).toArray ++ Builtin.zeroCells z.cells (grownCap w (xs.length + m) sc e - (xs.length + m))) e)).cell? ⟨w.heap.size, 0 + j, none⟩ = _ := World.cell?_alloc_new w.drew _ _ (0 + j)
      rw [e1, Nat.zero_add, Array.getElem?_append_left (by simpa using hj), List.getElem?_toArray]
    · have e1 : (w.drew.alloc (.cells ((xs ++ news).toArray ++ Builtin.zeroCells z.cells (grownCap w (xs.length + m) sc e - (xs.length + m))) e)).cell? ⟨w.heap.size, 0 + j, none⟩ = _ := World.cell?_alloc_new w.drew _ _ (0 + j)
      rw [e1, Nat.zero_add]
      have hsz : ((xs ++ news).toArray ++ Builtin.zeroCells z.cells (grownCap w (xs.length + m) sc e - (xs.length + m))).size = grownCap w (xs.length + m) sc e := by
        rw [Array.size_append, List.size_toArray, List.length_append, hnl, size_zeroCells, hzs]
        omega
      rw [Array.getElem?_eq_getElem (by rw [hsz]; exact hj)]
      rfl
    · simp only [Value.ownBlock, Option.some.injEq] at hg'
      exact .inr (by omega)
  rcases h with ⟨rfl, rfl⟩ | ⟨g, off, cap, rfl, hl, hc, hm, hx, hr⟩
  · by_cases h0 : m = 0
    · subst h0
      obtain rfl : news = [] := List.eq_nil_of_length_eq_zero hnl
      have hs' : Src P i.size t x 0 [] w := by rw [hsize]; exact hs
      exact ⟨_, _, run_append_nothing (P := P) w t t ty e i ht hi none 0 0 (Nat.le_refl _) x hs', .inl ⟨rfl, rfl⟩, ⟨rfl, rfl, rfl, Nat.le_refl _, fun _ _ _ => rfl⟩, fun g hg => .inl hg⟩
    · exact grow none 0 rfl (by simp; omega) (run_firstCells_none w.drew i.size 0 0 0)
  · by_cases hroom : xs.length + m ≤ cap
    · have hs' : Src P i.size t x m news w := by rw [hsize]; exact hs
      have hrun := run_append_room_src (P := P) w t t ty e i ht hi g off xs.length cap x m news hs' hroom
        (fun j hj => by rw [hsize, Nat.mul_one, Nat.add_assoc]; exact (hr (xs.length + j) (by omega)).1) (fun j hj => by rw [hsize, Nat.mul_one, Nat.add_assoc]; exact (hr (xs.length + j) (by omega)).2)
      rw [hsize, Nat.mul_one] at hrun
      have hsome : ∀ j, j < news.length → (w.cell? ⟨g, off + xs.length + j, none⟩).isSome = true := fun j hj => by rw [Nat.add_assoc]; exact (hr (xs.length + j) (by omega)).1
      refine ⟨_, _, hrun, .inr ⟨g, off, cap, by rw [List.length_append, hnl], by rw [size_setCells]; exact hl, by rw [List.length_append, hnl]; exact hroom, hm, fun j hj => ?_, fun j hj => ⟨isSome_setCells g news _ _ _ (hr j hj).1, (World.frozen?_setCells g _ _ _ _).trans (hr j hj).2⟩⟩, grownBy_setCells w g _ news, fun g' hg' => .inl hg'⟩
      rw [List.length_append] at hj
      by_cases hj' : j < xs.length
      · rw [World.cell?_setCells_out g _ _ _ _ (fun _ _ => Or.inl (by show off + j < off + xs.length; omega)), hx j hj', List.getElem?_append_left hj']
      · have := World.cell?_setCells_in g news (off + xs.length) w hsome (j - xs.length) (by omega)
        rw [show off + xs.length + (j - xs.length) = off + j by omega] at this
        rw [this, List.getElem?_append_right (by omega), List.getElem?_eq_getElem (by omega)]
    · refine grow _ cap rfl (by omega) ?_
      have := run_firstCells_some (P := P) w.drew i.size xs.length ⟨g, off, none⟩ xs.length cap xs (by rw [hsize, Nat.mul_one]) (fun j u hu => ?_)
      · exact this
      · have hj : j < xs.length := by
          rcases Nat.lt_or_ge j xs.length with h1 | h1
          · exact h1
          · rw [List.getElem?_eq_none h1] at hu; cases hu
        rw [Addr.add_lit]
        exact (hx j hj).trans hu

/-- append, as one step of a region that draws its order. -/
theorem step_append_tail (w : World) {ops : Array Oper} {o : Oper} {a : Act} {K : Act → World → Prop} {Q : Exit → Act → World → Prop} {E : Prop}
    (hg : o.guard = none) (s x : Operand) (t : TypeId) (hop : o.op = Op.call { callee := Callee.builtin Builtin.append, args := #[s, x], argTypes := #[t, t] })
    (e : TypeId) (i : TypeInfo) (z : Value) (bytes : Nat) (ht : P.underlying t = some (.slice e)) (hi : P.info? e = some i) (hz : i.zero = some z) (hsize : i.size = 1) (hby : i.bytes = bytes) (hzs : z.cells.size = 1)
    (v : Value) (xs : List Value) (hv : a.eval s = v) (h : Tail w v xs) (y : Value) (m : Nat) (news : List Value) (hy : a.eval x = y) (hs : Src P 1 t y m news w) (h63 : xs.length + m ≤ maxLen) (hbytes : (xs.length + m) * bytes ≤ 140737488355328)
    (hK : ∀ v' w', Tail w' v' (xs ++ news) → w.grownBy w' v.ownBlock → (∀ g, v'.ownBlock = some g → v.ownBlock = some g ∨ w.heap.size ≤ g) → K (a.put o.dst v') w') :
    if Region.wanted o (yielded ops a.tmps) = true then Oper.wp P o a w K Q else E := by
  have hw : Region.wanted o (yielded ops a.tmps) = true := by simp [Region.wanted, hg]
  rw [if_pos hw]
  obtain ⟨v', w', hr, h2, h3, h4⟩ := run_append_tail (P := P) w t o.type e i z bytes ht hi hz hsize hby hzs v xs h y m news hs h63 hbytes
  unfold Oper.wp
  simp [execOp, hop, resolve, invoke, builtin, hv, hy, hr, Result.andThen]
  exact hK _ _ h2 h3 h4

/-- append, at the operation. -/
theorem wpList_append_tail (w : World) {ops : Array Oper} {rest : List Oper} {o : Oper} {a : Act} {Q : Exit → Act → World → Prop} (hgd : o.guard = none) (s x : Operand) (t : TypeId) (hop : o.op = Op.call { callee := Callee.builtin Builtin.append, args := #[s, x], argTypes := #[t, t] })
    (e : TypeId) (i : TypeInfo) (z : Value) (bytes : Nat) (ht : P.underlying t = some (.slice e)) (hi : P.info? e = some i) (hz : i.zero = some z) (hsize : i.size = 1) (hby : i.bytes = bytes) (hzs : z.cells.size = 1)
    (v : Value) (xs : List Value) (hv : a.eval s = v) (h : Tail w v xs) (y : Value) (m : Nat) (news : List Value) (hy : a.eval x = y) (hs : Src P 1 t y m news w) (h63 : xs.length + m ≤ maxLen) (hbytes : (xs.length + m) * bytes ≤ 140737488355328)
    (hK : ∀ v' w', Tail w' v' (xs ++ news) → w.grownBy w' v.ownBlock → (∀ g, v'.ownBlock = some g → v.ownBlock = some g ∨ w.heap.size ≤ g) → wpList P ops Q rest (a.put o.dst v') w') : wpList P ops Q (o :: rest) a w := by
  refine wpList_plain hgd fun K hK' => ?_
  obtain ⟨v', w', hr, h2, h3, h4⟩ := run_append_tail (P := P) w t o.type e i z bytes ht hi hz hsize hby hzs v xs h y m news hs h63 hbytes
  unfold Oper.wp
  simp [execOp, hop, resolve, invoke, builtin, hv, hy, hr, Result.andThen]
  exact hK' _ _ (hK v' w' h2 h3 h4)
end

end Go.Proofs.Ytafocplahmfghaa
