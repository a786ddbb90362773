/-
  A ring of cells in plain lists: where an item stands, and what is left of the items behind a store, or behind a turn. Conditions: none; no Go function is looked at here. What a deque of package ring is in the model's world, and what New, Len, Most, PushL, PushR, PopL and PopR do, at every deque and at nil. Conditions: a deque as Rng says. What PushL, PushR, PopL and PopR of package ring do where there is room, or an item. Conditions: a deque as Rng says. A range over a method value (its receiver is bound, nothing is captured) whose rounds all come to their end: N rounds, one behind the other. Conditions: outside of any other round; no Go function is looked at here. What Items of package ring tells, at every deque and at nil: its items, from left to right, in new memory. Conditions: a deque as Rng says. A deque of places, in plain lists: what becomes of it by each operation, which push a pop meets, and codes; whom is met, the other way round, and as many as were there. Conditions: none; no Go function is looked at here.
-/
import Derived.Test.YtikaoikladbdpaaGreatG0816
import Derived.RangeFuncNested
import Derived.RangeFuncBound
import Derived.RangeFuncCalls
import Derived.RangeFuncLeaves
import Derived.RangeFuncBox
import Derived.Shelf.Abstract
import Derived.Shelf.RegionOpen
import Derived.OwnWalkIn
import Derived.TacticsInMore
import Derived.LoopNIn
import Derived.LoopIn
import Derived.Maps.AppendAt
namespace Go.Proofs.YtikaoikladbdpaaGreat.D10
open Go.RowKit

def pos (m f i : Nat) : Nat := if f + i < m then f + i else f + i - m
def ahead (m f : Nat) : Nat := if f = 0 then m - 1 else f - 1

theorem pos_lt {m f i : Nat} (hf : f < m) (hi : i ≤ m) : pos m f i < m := by unfold pos; split <;> omega
theorem pos_mod {m f i : Nat} (hf : f < m) (hi : i ≤ m) : (f + i) % m = pos m f i := by
  unfold pos
  split
  · exact Nat.mod_eq_of_lt (by omega)
  · rw [Nat.mod_eq_sub_mod (by omega), Nat.mod_eq_of_lt (by omega)]
theorem pos_zero {m f : Nat} (hf : f < m) : pos m f 0 = f := by unfold pos; rw [if_pos (by omega)]; omega
theorem ahead_lt {m f : Nat} (hf : f < m) : ahead m f < m := by unfold ahead; split <;> omega
theorem pos_inj {m f i j : Nat} (hi : i < m) (hj : j < m) (h : pos m f i = pos m f j) : i = j := by unfold pos at h; split at h <;> split at h <;> omega
theorem pos_ahead {m f i : Nat} (hf : f < m) (hi : i < m) : pos m (ahead m f) (i + 1) = pos m f i := by unfold pos ahead; split <;> split <;> split <;> omega
theorem pos_next {m f i : Nat} (hf : f < m) (hi : i + 1 < m) : pos m (pos m f 1) i = pos m f (i + 1) := by unfold pos; split <;> split <;> split <;> omega
theorem turn_next {m f : Nat} (hf : f < m) : (f + 1 + m) % m = pos m f 1 := by rw [Nat.add_mod_right, pos_mod hf (by omega)]
theorem turn_ahead {m f : Nat} (hf : f < m) : (f + m - 1) % m = ahead m f := by
  unfold ahead
  split
  · subst f; rw [Nat.zero_add]; exact Nat.mod_eq_of_lt (by omega)
  · rw [show f + m - 1 = f - 1 + m by omega, Nat.add_mod_right]; exact Nat.mod_eq_of_lt (by omega)

structure Holds (ds : List Int) (f : Nat) (zs : List Int) : Prop where
  first : f < ds.length ∨ (f = 0 ∧ ds.length = 0)
  room : zs.length ≤ ds.length
  item : ∀ i, i < zs.length → ds.getD (pos ds.length f i) 0 = zs.getD i 0

theorem getD_set_same (ds : List Int) (j : Nat) (x : Int) (h : j < ds.length) : (ds.set j x).getD j 0 = x := by simp [List.getD, h]
theorem getD_set_other (ds : List Int) (j k : Nat) (x : Int) (h : j ≠ k) : (ds.set j x).getD k 0 = ds.getD k 0 := by simp [List.getD, h]

section
variable {ds zs : List Int} {f : Nat}
theorem Holds.none (m : Nat) : Holds (List.replicate m 0) 0 [] := ⟨by simp; omega, by simp, fun i hi => by simp at hi⟩
theorem Holds.lt (h : Holds ds f zs) (hp : 0 < ds.length) : f < ds.length := by rcases h.first with h1 | h1 <;> omega
theorem Holds.pushL (h : Holds ds f zs) (hr : zs.length < ds.length) (x : Int) : Holds (ds.set (ahead ds.length f) x) (ahead ds.length f) (x :: zs) := by
  have hf := h.lt (by omega)
  have ha := ahead_lt hf
  refine ⟨by simp; exact .inl ha, by simp; omega, fun i hi => ?_⟩
  rw [List.length_set]
  cases i with
  | zero => rw [pos_zero ha, getD_set_same _ _ _ ha]; rfl
  | succ i =>
    simp only [List.length_cons] at hi
    rw [pos_ahead hf (by omega), getD_set_other, h.item i (by omega)]
    · rfl
    · intro e
      rw [← pos_ahead hf (show i < ds.length by omega)] at e
      have e2 := pos_inj (m := ds.length) (f := ahead ds.length f) (i := 0) (j := i + 1) (by omega) (by omega) (by rw [pos_zero ha]; exact e)
      omega
theorem Holds.pushR (h : Holds ds f zs) (hr : zs.length < ds.length) (x : Int) : Holds (ds.set (pos ds.length f zs.length) x) f (zs ++ [x]) := by
  have hf := h.lt (by omega)
  refine ⟨by simp; exact .inl hf, by simp; omega, fun i hi => ?_⟩
  rw [List.length_set]
  simp only [List.length_append, List.length_cons, List.length_nil] at hi
  rcases Nat.lt_or_ge i zs.length with h1 | h1
  · rw [getD_set_other _ _ _ _ (fun e => by have := pos_inj (by omega) (by omega) e; omega), h.item i h1]
    simp [List.getD, h1, List.getElem?_append_left h1]
  · obtain rfl : i = zs.length := by omega
    rw [getD_set_same _ _ _ (pos_lt hf (by omega))]
    simp [List.getD]
theorem Holds.popL {z : Int} (h : Holds ds f (z :: zs)) : Holds ds (pos ds.length f 1) zs ∧ ds.getD (pos ds.length f 0) 0 = z := by
  have hr := h.room
  simp only [List.length_cons] at hr
  have hf := h.lt (by omega)
  refine ⟨⟨.inl (pos_lt hf (by omega)), by omega, fun i hi => ?_⟩, by rw [h.item 0 (by simp)]; rfl⟩
  rw [pos_next hf (by omega), h.item (i + 1) (by simp; omega)]
  rfl
theorem Holds.popR {y : Int} (h : Holds ds f (zs ++ [y])) : Holds ds f zs ∧ ds.getD (pos ds.length f zs.length) 0 = y := by
  have hr := h.room
  simp only [List.length_append, List.length_cons, List.length_nil] at hr
  refine ⟨⟨h.first, by omega, fun i hi => ?_⟩, by rw [h.item zs.length (by simp)]; simp [List.getD]⟩
  rw [h.item i (by simp; omega)]
  simp [List.getD, hi, List.getElem?_append_left hi]
end

structure Raw (w : World) (p g : Nat) (ds : List Int) (f n : Nat) : Prop where
  block : w.heap[p]? = some (.cells #[.slice (some ⟨g, 0, none⟩) ds.length ds.length, .int .i64 f, .int .i64 n] 162 (0, 0))
  data : w.heap[g]? = some (.cells (ds.map (Value.int .i32)).toArray 21 (0, 0))

section
variable {w w' : World} {p g : Nat} {ds : List Int} {f n : Nat}
theorem Raw.lt (h : Raw w p g ds f n) : p < w.heap.size := lt_of_block h.block
theorem Raw.ltg (h : Raw w p g ds f n) : g < w.heap.size := lt_of_block h.data
theorem Raw.ne (h : Raw w p g ds f n) : p ≠ g := by
  rintro rfl
  have hb := h.block
  rw [h.data] at hb
  simp at hb
theorem Raw.c0 (h : Raw w p g ds f n) : w.cell? ⟨p, 0, none⟩ = some (.slice (some ⟨g, 0, none⟩) ds.length ds.length) := by simp [World.cell?, h.block]
theorem Raw.c1 (h : Raw w p g ds f n) : w.cell? ⟨p, 1, none⟩ = some (.int .i64 f) := by simp [World.cell?, h.block]
theorem Raw.c2 (h : Raw w p g ds f n) : w.cell? ⟨p, 2, none⟩ = some (.int .i64 n) := by simp [World.cell?, h.block]
theorem Raw.fp (h : Raw w p g ds f n) (j : Nat) : w.frozen? ⟨p, j, none⟩ = false := by simp [World.frozen?, h.block]
theorem Raw.fg (h : Raw w p g ds f n) (j : Nat) : w.frozen? ⟨g, j, none⟩ = false := by simp [World.frozen?, h.data]
theorem Raw.cell (h : Raw w p g ds f n) (j : Nat) (hj : j < ds.length) : w.cell? ⟨g, j, none⟩ = some (.int .i32 (ds.getD j 0)) := by
  simp [World.cell?, h.data, hj, List.getD]
theorem Raw.keep (h : Raw w p g ds f n) (hp : w'.heap[p]? = w.heap[p]?) (hg : w'.heap[g]? = w.heap[g]?) : Raw w' p g ds f n := ⟨hp.trans h.block, hg.trans h.data⟩
theorem Raw.drewN (h : Raw w p g ds f n) (q : Nat) : Raw (w.drewN q) p g ds f n := ⟨h.block, h.data⟩
theorem Raw.setFrom (h : Raw w p g ds f n) (f' : Nat) : Raw (w.setCell ⟨p, 1, none⟩ (.int .i64 f')) p g ds f' n := by
  refine ⟨?_, (Below.heap_setCell _ _ _ _ (Ne.symm h.ne)).trans h.data⟩
  rw [heap_setCell_same w p 1 _ _ _ h.block]; rfl
theorem Raw.setMany (h : Raw w p g ds f n) (n' : Nat) (z : Int) (hz : z = n') : Raw (w.setCell ⟨p, 2, none⟩ (.int .i64 z)) p g ds f n' := by
  subst hz
  refine ⟨?_, (Below.heap_setCell _ _ _ _ (Ne.symm h.ne)).trans h.data⟩
  rw [heap_setCell_same w p 2 _ _ _ h.block]; rfl
theorem Raw.setItem (h : Raw w p g ds f n) (j : Nat) (x : Int) : Raw (w.setCell ⟨g, j, none⟩ (.int .i32 x)) p g (ds.set j x) f n := by
  refine ⟨?_, ?_⟩
  · rw [List.length_set]; exact (Below.heap_setCell _ _ _ _ h.ne).trans h.block
  · rw [heap_setCell_same w g j _ _ _ h.data]; simp [List.map_set]
end

section
variable {w : World} {p g : Nat} {ds : List Int} {f n : Nat}

set_option maxRecDepth 100000 in
set_option maxHeartbeats 1600000 in
theorem placeAny (h : Raw w p g ds f n) (hf : f < ds.length) (hl : ds.length ≤ 1000) (i : Nat) (hi : i ≤ ds.length) :
    Calls Tryz.prog 179 #[.pointer (some ⟨p, 0, none⟩), .int .i64 i] w fun e w' => e = .returned (.pointer (some ⟨g, pos ds.length f i, none⟩)) ∧ ∃ q, w' = w.drewN q := by
  have c0 := h.c0
  have c1 := h.c1
  have hm := pos_mod hf hi
  have hq := pos_lt hf hi
  clear h
  generalize ds.length = m at *
  have e1 : IntKind.i64.wrap ((f : Int) + (i : Int)) = ((f + i : Nat) : Int) := by rw [IntKind.wrap_i64]; omega
  have e2 : (((f + i : Nat) : Int)).tmod (m : Int) = ((pos m f i : Nat) : Int) := by
    rw [Int.tmod_eq_emod_of_nonneg (by omega), ← hm]; rfl
  clear hm
  generalize pos m f i = r at *
  generalize f + i = s at *
  have e3 : IntKind.i64.wrap (r : Int) = (r : Int) := by rw [IntKind.wrap_i64]; omega
  have n0 : ¬ m = 0 := by omega
  have q1 : (r : Int) < m := by omega
  go_enter Tryz.func179, Tryz.ntmps179
  go_wp2
  go_quiet (fail)
  go_wp2
  go_ret
  exact ⟨rfl, _, rfl⟩

theorem raw_turned (h : Raw w p g ds f n) (f' : Nat) : Raw (w.drew.setCell ⟨p, 1, none⟩ (.int .i64 f')) p g ds f' n ∧ Wrote (fun k => k = p) w (w.drew.setCell ⟨p, 1, none⟩ (.int .i64 f')) :=
  ⟨(h.drewN 1).setFrom f', (Wrote.refl (fun k => k = p) w).drew.setCell (.inr rfl) _⟩

set_option maxRecDepth 100000 in
set_option maxHeartbeats 1600000 in
theorem turnNext (h : Raw w p g ds f n) (hf : f < ds.length) (hl : ds.length ≤ 1000) :
    Calls Tryz.prog 199 #[.pointer (some ⟨p, 0, none⟩), .int .i64 1] w fun e w' => e = .returned (.tuple #[]) ∧ Raw w' p g ds (pos ds.length f 1) n ∧ Wrote (fun k => k = p) w w' := by
  have c0 := h.c0
  have c1 := h.c1
  have fr := h.fp 1
  have HT := Lib.hid (raw_turned h (pos ds.length f 1))
  have hm := turn_next hf
  have hq := pos_lt hf (show 1 ≤ ds.length by omega)
  clear h
  generalize pos ds.length f 1 = r at *
  generalize ds.length = m at *
  have e1 : IntKind.i64.wrap ((f : Int) + 1) = ((f + 1 : Nat) : Int) := by rw [IntKind.wrap_i64]; omega
  have e2 : IntKind.i64.wrap (((f + 1 : Nat) : Int) + (m : Int)) = ((f + 1 + m : Nat) : Int) := by rw [IntKind.wrap_i64]; omega
  have e3 : (((f + 1 + m : Nat) : Int)).tmod (m : Int) = (r : Int) := by
    rw [Int.tmod_eq_emod_of_nonneg (by omega), ← hm]; rfl
  clear hm
  generalize f + 1 + m = s2 at *
  generalize f + 1 = s at *
  have e4 : IntKind.i64.wrap (r : Int) = (r : Int) := by rw [IntKind.wrap_i64]; omega
  have n0 : ¬ m = 0 := by omega
  go_enter Tryz.func199, Tryz.ntmps199
  go_wp2
  go_still_tail 21, (by kernel_rfl)
  have c1' : w.drew.cell? ⟨p, 1, none⟩ = some (.int .i64 f) := c1
  have fr' : w.drew.frozen? ⟨p, 1, none⟩ = false := fr
  clear c0 c1 fr e1 e2 e3 e4
  change wpList _ _ _ _ _ w.drew
  generalize w.drew = w2 at *
  go_wp2
  go_end0
  exact ⟨rfl, HT.out⟩

set_option maxRecDepth 100000 in
set_option maxHeartbeats 1600000 in
theorem turnBack (h : Raw w p g ds f n) (hf : f < ds.length) (hl : ds.length ≤ 1000) :
    Calls Tryz.prog 199 #[.pointer (some ⟨p, 0, none⟩), .int .i64 (-1)] w fun e w' => e = .returned (.tuple #[]) ∧ Raw w' p g ds (ahead ds.length f) n ∧ Wrote (fun k => k = p) w w' := by
  have c0 := h.c0
  have c1 := h.c1
  have fr := h.fp 1
  have HT := Lib.hid (raw_turned h (ahead ds.length f))
  have hm := turn_ahead hf
  have hq := ahead_lt hf
  clear h
  generalize ahead ds.length f = r at *
  generalize ds.length = m at *
  obtain ⟨x, hx⟩ : ∃ x : Int, x = (f : Int) + -1 := ⟨_, rfl⟩
  have e1 : IntKind.i64.wrap ((f : Int) + -1) = x := by rw [IntKind.wrap_i64]; omega
  have e2 : IntKind.i64.wrap (x + (m : Int)) = ((f + m - 1 : Nat) : Int) := by rw [IntKind.wrap_i64]; omega
  have e3 : (((f + m - 1 : Nat) : Int)).tmod (m : Int) = (r : Int) := by
    rw [Int.tmod_eq_emod_of_nonneg (by omega), ← hm]; rfl
  clear hm hx
  generalize f + m - 1 = s2 at *
  have e4 : IntKind.i64.wrap (r : Int) = (r : Int) := by rw [IntKind.wrap_i64]; omega
  have n0 : ¬ m = 0 := by omega
  go_enter Tryz.func199, Tryz.ntmps199
  go_wp2
  go_still_tail 21, (by kernel_rfl)
  have c1' : w.drew.cell? ⟨p, 1, none⟩ = some (.int .i64 f) := c1
  have fr' : w.drew.frozen? ⟨p, 1, none⟩ = false := fr
  clear c0 c1 fr e1 e2 e3 e4
  change wpList _ _ _ _ _ w.drew
  generalize w.drew = w2 at *
  go_wp2
  go_end0
  exact ⟨rfl, HT.out⟩
end

def Rng (w : World) (F : Nat → Prop) (p : Nat) (most : Int) (zs : List Int) : Prop :=
  ∃ g ds f, Raw w p g ds f zs.length ∧ Holds ds f zs ∧ most = ds.length ∧ ds.length ≤ 1000 ∧ F p ∧ F g ∧ ∀ k, F k → k < w.heap.size

def Did (F : Nat → Prop) (p : Nat) (most : Int) (zs : List Int) (w w' : World) : Prop := ∃ F', Rng w' F' p most zs ∧ Wrote F w w' ∧ Later F F' w

theorem _root_.Go.Proofs.YtikaoikladbdpaaGreat.Wrote.mono {F G : Nat → Prop} {w w' : World} (h : Wrote F w w') (hFG : ∀ g, F g → G g) : Wrote G w w' := ⟨h.os, h.tape, h.output, h.size, fun k hk hn => h.block k hk (fun e => hn (hFG k e))⟩

section
variable {w w' : World} {F G : Nat → Prop} {p : Nat} {most : Int} {zs : List Int}
theorem Rng.len (h : Rng w F p most zs) : zs.length ≤ 1000 := by obtain ⟨g, ds, f, _, h2, _, h4, _⟩ := h; have := h2.room; omega
theorem Rng.s0 (h : Rng w F p most zs) : 0 ≤ most := by obtain ⟨g, ds, f, _, _, h3, _⟩ := h; omega
theorem Rng.s1 (h : Rng w F p most zs) : most ≤ 1000 := by obtain ⟨g, ds, f, _, _, h3, h4, _⟩ := h; omega
theorem Rng.room (h : Rng w F p most zs) : (zs.length : Int) ≤ most := by obtain ⟨g, ds, f, _, h2, h3, _⟩ := h; have := h2.room; omega
theorem Rng.foot (h : Rng w F p most zs) : ∀ g, F g → g < w.heap.size := by obtain ⟨g, ds, f, _, _, _, _, _, _, h7⟩ := h; exact h7
theorem Rng.apart (h : Rng w F p most zs) (hw : Wrote G w w') (ha : Apart F G) : Rng w' F p most zs := by
  obtain ⟨g, ds, f, h1, h2, h3, h4, h5, h6, h7⟩ := h
  exact ⟨g, ds, f, h1.keep (hw.block _ h1.lt (ha p h5)) (hw.block _ h1.ltg (ha g h6)), h2, h3, h4, h5, h6, fun k hk => Nat.lt_of_lt_of_le (h7 k hk) hw.size⟩
theorem Rng.fresh (h : Rng w F p most zs) (hb : Below w.heap.size w w') : Rng w' F p most zs := h.apart (Wrote.of hb (fun _ => False)) (fun _ _ h => h)
theorem Rng.did (h : Rng w F p most zs) (hb : Below w.heap.size w w') : Did F p most zs w w' := ⟨F, h.fresh hb, Wrote.of hb F, Later.refl _ _⟩
theorem did_mk {g : Nat} {ds : List Int} {f : Nat} (h1 : Raw w' p g ds f zs.length) (h2 : Holds ds f zs) (h3 : most = ds.length) (h4 : ds.length ≤ 1000) (h5 : F p) (h6 : F g) (h7 : ∀ k, F k → k < w.heap.size) (hw : Wrote F w w') : Did F p most zs w w' :=
  ⟨F, ⟨g, ds, f, h1, h2, h3, h4, h5, h6, fun k hk => Nat.lt_of_lt_of_le (h7 k hk) hw.size⟩, hw, Later.refl _ _⟩
end

def Copied (w : World) (most : Int) (zs : List Int) (e : Ending) (w' : World) : Prop :=
  ∃ q, e = .returned (.pointer (some ⟨q, 0, none⟩)) ∧ Rng w' (New w w') q most zs ∧ Below w.heap.size w w'

theorem newRng {w w1 : World} {g n : Nat} (hn : n ≤ 1000) (ho : w1.ownsRow w.heap.size 21 1 (.slice (some ⟨g, 0, none⟩) n n) n (madeCells (Value.int .i32 0).cells (n * 1)).toList) (hg : w.grownBy w1 none) :
    Copied w n [] (.returned (.pointer (some ⟨w1.heap.size, 0, none⟩))) (w1.alloc (.cells #[.slice (some ⟨g, 0, none⟩) n n, .int .i64 0, .int .i64 0] 162)) := by
  have hr := rowWhole ho
  rw [show (Value.int .i32 0).cells = #[Value.int .i32 0] from rfl, Nat.mul_one, toList_madeCells_one] at hr
  have hb : Below w.heap.size w w1 := (Below.refl _ _).grown hg (Nat.le_refl _) (by simp)
  have hlt := ho.lt g rfl
  refine ⟨_, rfl, ⟨g, List.replicate n 0, 0, ⟨?_, ?_⟩, Holds.none n, by simp, by simpa using hn, ⟨hb.size, by simp⟩, ⟨hlt.1, by simp; omega⟩, fun k hk => hk.2⟩, hb.alloc hb.size _⟩
  · simpa using heap_alloc_new w1 (.cells #[.slice (some ⟨g, 0, none⟩) n n, .int .i64 0, .int .i64 0] 162)
  · rw [Below.heap_alloc _ _ _ hlt.2, hr]; simp

set_option maxRecDepth 100000 in
set_option maxHeartbeats 1600000 in
theorem newAny (n : Int) (w : World) : Calls Tryz.prog 69 #[.int .i64 n] w (Copied w (mostOf n) []) := by
  obtain ⟨i0, hi, hz0, hz1, hz2⟩ := info_parts infoI32
  have HI := Lib.hid hi
  have H0 := Lib.hid hz0
  have H1 := Lib.hid hz1
  have H2 := Lib.hid hz2
  clear hi hz0 hz1 hz2
  rcases (show n < 0 ∨ 1000 < n ∨ (0 ≤ n ∧ n ≤ 1000) from by omega) with h | h | h
  · have HE := Lib.hid (show mostOf n = ((0 : Nat) : Int) by unfold mostOf; rw [if_pos h]; rfl)
    go_enter Tryz.func69, Tryz.ntmps69
    go_wp2_with (at_make; refine wpList_make_full _ rfl _ _ 59 rfl w.heap.size 21 i0 (.int .i32 0) 1 Tryz.underlying59 HI.out H0.out H1.out _ _ _ _ 0 rfl rfl (by simp) (by simp) (by rw [H2.out]; omega) (by unfold maxLen; omega) (Nat.le_refl _) ?_; intro w1 ho hg; have HO := Lib.hid ho; have HG := Lib.hid hg; clear ho hg)
    go_ret
    rw [HE.out]
    exact newRng (by omega) HO.out HG.out
  · have HE := Lib.hid (show mostOf n = ((1000 : Nat) : Int) by unfold mostOf; rw [if_neg (by omega), if_pos h]; rfl)
    have h2 : ¬ n < 0 := by omega
    go_enter Tryz.func69, Tryz.ntmps69
    go_wp2_with (at_make; refine wpList_make_full _ rfl _ _ 59 rfl w.heap.size 21 i0 (.int .i32 0) 1 Tryz.underlying59 HI.out H0.out H1.out _ _ _ _ 1000 rfl rfl (by simp) (by simp) (by rw [H2.out]; omega) (by unfold maxLen; omega) (Nat.le_refl _) ?_; intro w1 ho hg; have HO := Lib.hid ho; have HG := Lib.hid hg; clear ho hg)
    go_ret
    rw [HE.out]
    exact newRng (by omega) HO.out HG.out
  · have HE := Lib.hid (mostOf_self n h.1 h.2)
    obtain ⟨h0, h1⟩ := h
    obtain ⟨m, rfl⟩ := Int.eq_ofNat_of_zero_le h0
    go_enter Tryz.func69, Tryz.ntmps69
    go_wp2_with (at_make; refine wpList_make_full _ rfl _ _ 59 rfl w.heap.size 21 i0 (.int .i32 0) 1 Tryz.underlying59 HI.out H0.out H1.out _ _ _ _ m rfl rfl (by simp) (by simp) (by rw [H2.out]; omega) (by unfold maxLen; omega) (Nat.le_refl _) ?_; intro w1 ho hg; have HO := Lib.hid ho; have HG := Lib.hid hg; clear ho hg)
    all_goals
      go_ret
      rw [HE.out]
      exact newRng (by omega) HO.out HG.out

section
variable {w : World} {F : Nat → Prop} {p : Nat} {most : Int} {zs : List Int}

theorem lenAny (h : Rng w F p most zs) :
    Calls Tryz.prog 177 #[.pointer (some ⟨p, 0, none⟩)] w fun e w' => e = .returned (.int .i64 zs.length) ∧ w = w' := by
  obtain ⟨g, ds, f, m, _⟩ := h
  have c2 := m.c2
  clear m
  go_enter Tryz.func177, Tryz.ntmps177
  go_wp2
  go_ret
  exact ⟨rfl, rfl⟩

theorem lenNil (w : World) :
    Calls Tryz.prog 177 #[.pointer none] w fun e w' => e = .returned (.int .i64 0) ∧ w = w' := by
  go_enter Tryz.func177, Tryz.ntmps177
  go_wp2
  go_ret
  exact ⟨rfl, rfl⟩

theorem mostAny (h : Rng w F p most zs) :
    Calls Tryz.prog 186 #[.pointer (some ⟨p, 0, none⟩)] w fun e w' => e = .returned (.int .i64 most) ∧ w = w' := by
  obtain ⟨g, ds, f, m, _, rfl, _⟩ := h
  have c0 := m.c0
  clear m
  go_enter Tryz.func186, Tryz.ntmps186
  go_wp2
  go_ret
  exact ⟨rfl, rfl⟩

theorem mostNil (w : World) :
    Calls Tryz.prog 186 #[.pointer none] w fun e w' => e = .returned (.int .i64 0) ∧ w = w' := by
  go_enter Tryz.func186, Tryz.ntmps186
  go_wp2
  go_ret
  exact ⟨rfl, rfl⟩

theorem pushLFull (h : Rng w F p most zs) (x : Int) (hf : ¬ (zs.length : Int) < most) :
    Calls Tryz.prog 189 #[.pointer (some ⟨p, 0, none⟩), .int .i32 x] w fun e w' => e = .returned (.bool false) ∧ w = w' := by
  have L := lenAny h
  have M := mostAny h
  clear h
  go_enter Tryz.func189, Tryz.ntmps189
  go_wp2_with (first | (go_at_call 177; refine L.mono ?_; rintro e w' ⟨rfl, rfl⟩) | (go_at_call 186; refine M.mono ?_; rintro e w' ⟨rfl, rfl⟩))
  go_ret
  exact ⟨rfl, rfl⟩

theorem pushLNil (w : World) (x : Int) :
    Calls Tryz.prog 189 #[.pointer none, .int .i32 x] w fun e w' => e = .returned (.bool false) ∧ w = w' := by
  go_enter Tryz.func189, Tryz.ntmps189
  go_wp2_with (first | (go_at_call 177; refine (lenNil _).mono ?_; rintro e w' ⟨rfl, rfl⟩) | (go_at_call 186; refine (mostNil _).mono ?_; rintro e w' ⟨rfl, rfl⟩))
  go_ret
  exact ⟨rfl, rfl⟩

theorem pushRFull (h : Rng w F p most zs) (x : Int) (hf : ¬ (zs.length : Int) < most) :
    Calls Tryz.prog 190 #[.pointer (some ⟨p, 0, none⟩), .int .i32 x] w fun e w' => e = .returned (.bool false) ∧ w = w' := by
  have L := lenAny h
  have M := mostAny h
  clear h
  go_enter Tryz.func190, Tryz.ntmps190
  go_wp2_with (first | (go_at_call 177; refine L.mono ?_; rintro e w' ⟨rfl, rfl⟩) | (go_at_call 186; refine M.mono ?_; rintro e w' ⟨rfl, rfl⟩))
  go_ret
  exact ⟨rfl, rfl⟩

theorem pushRNil (w : World) (x : Int) :
    Calls Tryz.prog 190 #[.pointer none, .int .i32 x] w fun e w' => e = .returned (.bool false) ∧ w = w' := by
  go_enter Tryz.func190, Tryz.ntmps190
  go_wp2_with (first | (go_at_call 177; refine (lenNil _).mono ?_; rintro e w' ⟨rfl, rfl⟩) | (go_at_call 186; refine (mostNil _).mono ?_; rintro e w' ⟨rfl, rfl⟩))
  go_ret
  exact ⟨rfl, rfl⟩

theorem popLNone (h : Rng w F p most []) :
    Calls Tryz.prog 192 #[.pointer (some ⟨p, 0, none⟩)] w fun e w' => e = .returned (.tuple #[.int .i32 0, .bool false]) ∧ w = w' := by
  have L := lenAny h
  clear h
  go_enter Tryz.func192, Tryz.ntmps192
  go_wp2_with (go_at_call 177; refine L.mono ?_; rintro e w' ⟨rfl, rfl⟩)
  go_ret2
  exact ⟨rfl, rfl⟩

theorem popLNil (w : World) :
    Calls Tryz.prog 192 #[.pointer none] w fun e w' => e = .returned (.tuple #[.int .i32 0, .bool false]) ∧ w = w' := by
  go_enter Tryz.func192, Tryz.ntmps192
  go_wp2_with (go_at_call 177; refine (lenNil _).mono ?_; rintro e w' ⟨rfl, rfl⟩)
  go_ret2
  exact ⟨rfl, rfl⟩

theorem popRNone (h : Rng w F p most []) :
    Calls Tryz.prog 193 #[.pointer (some ⟨p, 0, none⟩)] w fun e w' => e = .returned (.tuple #[.int .i32 0, .bool false]) ∧ w = w' := by
  have L := lenAny h
  clear h
  go_enter Tryz.func193, Tryz.ntmps193
  go_wp2_with (go_at_call 177; refine L.mono ?_; rintro e w' ⟨rfl, rfl⟩)
  go_ret2
  exact ⟨rfl, rfl⟩

theorem popRNil (w : World) :
    Calls Tryz.prog 193 #[.pointer none] w fun e w' => e = .returned (.tuple #[.int .i32 0, .bool false]) ∧ w = w' := by
  go_enter Tryz.func193, Tryz.ntmps193
  go_wp2_with (go_at_call 177; refine (lenNil _).mono ?_; rintro e w' ⟨rfl, rfl⟩)
  go_ret2
  exact ⟨rfl, rfl⟩
end

section
variable {w : World} {F : Nat → Prop} {p : Nat} {most : Int} {zs : List Int}

set_option maxRecDepth 100000 in
set_option maxHeartbeats 1600000 in
theorem pushLOk (h : Rng w F p most zs) (x : Int) (hf : (zs.length : Int) < most) :
    Calls Tryz.prog 189 #[.pointer (some ⟨p, 0, none⟩), .int .i32 x] w fun e w' => e = .returned (.bool true) ∧ Did F p most (x :: zs) w w' := by
  have L := lenAny h
  have M := mostAny h
  have hz := h.len
  obtain ⟨g, ds, f, h1, h2, h3, h4, h5, h6, h7⟩ := h
  have hr : zs.length < ds.length := by omega
  have hfl := h2.lt (by omega)
  have T := turnBack h1 hfl h4
  have hal := ahead_lt hfl
  have HH := Lib.hid (h2.pushL hr x)
  have HS := Lib.hid (show (ds.length ≤ 1000 ∧ most = ds.length ∧ F p ∧ F g ∧ ∀ k, F k → k < w.heap.size) from ⟨h4, h3, h5, h6, h7⟩)
  have HP := Lib.hid (pos_zero hal)
  clear h1 h2 h3 h5 h6 h7 hfl
  go_enter Tryz.func189, Tryz.ntmps189
  go_wp2_with (first | (go_at_call 177; refine L.mono ?_; rintro e w' ⟨rfl, rfl⟩) | (go_at_call 186; refine M.mono ?_; rintro e w' ⟨rfl, rfl⟩))
  refine T.mono ?_
  rintro e w1 ⟨rfl, r1, wr1⟩
  have c2 := r1.c2
  have f2 := r1.fp 2
  have HR := Lib.hid (r1.setMany (zs.length + 1) ((zs.length : Int) + 1) (by omega))
  have HW := Lib.hid ((wr1.mono (G := F) (fun k e => by subst e; exact HS.out.2.2.1)).setCell (q := ⟨p, 2, none⟩) (.inr HS.out.2.2.1) (.int .i64 ((zs.length : Int) + 1)))
  clear r1 wr1 T L M
  go_wp2_with fail
  generalize w1.setCell ⟨p, 2, none⟩ (.int .i64 ((zs.length : Int) + 1)) = w2 at *
  clear c2 f2
  refine (placeAny HR.out hal h4 0 (Nat.zero_le _)).mono ?_
  rintro e w3 ⟨rfl, q, rfl⟩
  rw [HP.out]
  have r3 := HR.out.drewN q
  have c3 := r3.cell (ahead ds.length f) hal
  have f3 := r3.fg (ahead ds.length f)
  have HR3 := Lib.hid (r3.setItem (ahead ds.length f) x)
  have HW3 := Lib.hid ((HW.out.drewN q).setCell (q := ⟨g, ahead ds.length f, none⟩) (.inr HS.out.2.2.2.1) (.int .i32 x))
  clear r3 HR HW
  generalize w2.drewN q = w3 at *
  generalize ds.getD (ahead ds.length f) 0 = old at *
  go_wp2
  go_ret
  obtain ⟨k4, k3, k5, k6, k7⟩ := HS.out
  exact ⟨rfl, did_mk HR3.out HH.out (by rw [List.length_set]; exact k3) (by rw [List.length_set]; exact k4) k5 k6 k7 HW3.out⟩

set_option maxRecDepth 100000 in
set_option maxHeartbeats 1600000 in
theorem popLOk (z : Int) (h : Rng w F p most (z :: zs)) :
    Calls Tryz.prog 192 #[.pointer (some ⟨p, 0, none⟩)] w fun e w' => e = .returned (.tuple #[.int .i32 z, .bool true]) ∧ Did F p most zs w w' := by
  have L := lenAny h
  have hz := h.len
  obtain ⟨g, ds, f, h1, h2, h3, h4, h5, h6, h7⟩ := h
  have hro := h2.room
  simp only [List.length_cons] at hro hz L h1
  have hfl := h2.lt (by omega)
  obtain ⟨hh, hv⟩ := h2.popL
  have hpl := pos_lt hfl (Nat.zero_le ds.length)
  have HH := Lib.hid hh
  have HV := Lib.hid hv
  have P := placeAny h1 hfl h4 0 (Nat.zero_le _)
  have HS := Lib.hid (show (ds.length ≤ 1000 ∧ most = ds.length ∧ F p ∧ F g ∧ ∀ k, F k → k < w.heap.size) from ⟨h4, h3, h5, h6, h7⟩)
  have HR := Lib.hid h1
  clear h1 h2 h3 h5 h6 h7 hh hv
  generalize hn : zs.length = n at *
  have HN := Lib.hid hn
  clear hn
  go_enter Tryz.func192, Tryz.ntmps192
  go_wp2_with (go_at_call 177; refine L.mono ?_; rintro e w' ⟨rfl, rfl⟩)
  refine P.mono ?_
  rintro e w1 ⟨rfl, q, rfl⟩
  have r1 := HR.out.drewN q
  have c1 := r1.cell _ hpl
  rw [HV.out] at c1
  have T := turnNext r1 hfl h4
  have HW1 := Lib.hid ((Wrote.refl F w).drewN q)
  clear P L HR r1
  generalize w.drewN q = w2 at *
  generalize pos ds.length f 0 = r0 at *
  go_wp2_with fail
  refine T.mono ?_
  rintro e w3 ⟨rfl, r3, wr3⟩
  have c2 := r3.c2
  have f2 := r3.fp 2
  have e1 : IntKind.i64.wrap (((n + 1 : Nat) : Int) - 1) = (n : Int) := by rw [IntKind.wrap_i64]; omega
  have HR3 := Lib.hid (r3.setMany n (n : Int) rfl)
  have HW3 := Lib.hid ((HW1.out.trans (wr3.mono (G := F) (fun k e => by subst e; exact HS.out.2.2.1))).setCell (q := ⟨p, 2, none⟩) (.inr HS.out.2.2.1) (.int .i64 (n : Int)))
  clear r3 wr3 T c1
  go_wp2
  go_ret2
  obtain ⟨k4, k3, k5, k6, k7⟩ := HS.out
  exact ⟨rfl, did_mk (by rw [HN.out]; exact HR3.out) HH.out k3 k4 k5 k6 k7 HW3.out⟩

set_option maxRecDepth 100000 in
set_option maxHeartbeats 1600000 in
theorem popROk (y : Int) (h : Rng w F p most (zs ++ [y])) :
    Calls Tryz.prog 193 #[.pointer (some ⟨p, 0, none⟩)] w fun e w' => e = .returned (.tuple #[.int .i32 y, .bool true]) ∧ Did F p most zs w w' := by
  have L := lenAny h
  have hz := h.len
  obtain ⟨g, ds, f, h1, h2, h3, h4, h5, h6, h7⟩ := h
  have hro := h2.room
  simp only [List.length_append, List.length_cons, List.length_nil, Nat.zero_add] at hro hz L h1
  have hfl := h2.lt (by omega)
  obtain ⟨hh, hv⟩ := h2.popR
  have hpl := pos_lt hfl (show zs.length ≤ ds.length by omega)
  have HH := Lib.hid hh
  have HV := Lib.hid hv
  have HS := Lib.hid (show (ds.length ≤ 1000 ∧ most = ds.length ∧ F p ∧ F g ∧ ∀ k, F k → k < w.heap.size) from ⟨h4, h3, h5, h6, h7⟩)
  have c2 := h1.c2
  have f2 := h1.fp 2
  generalize hn : zs.length = n at *
  have HN := Lib.hid hn
  clear hn
  have e1 : IntKind.i64.wrap (((n + 1 : Nat) : Int) - 1) = (n : Int) := by rw [IntKind.wrap_i64]; omega
  have HR := Lib.hid (h1.setMany n (n : Int) rfl)
  have HW := Lib.hid ((Wrote.refl F w).setCell (q := ⟨p, 2, none⟩) (.inr h5) (.int .i64 (n : Int)))
  clear h1 h2 h3 h5 h6 h7 hh hv
  go_enter Tryz.func193, Tryz.ntmps193
  go_wp2_with (go_at_call 177; refine L.mono ?_; rintro e w' ⟨rfl, rfl⟩)
  generalize w.setCell ⟨p, 2, none⟩ (.int .i64 (n : Int)) = w2 at *
  clear c2 f2 e1
  have c2 := HR.out.c2
  have c1 := HR.out.cell _ hpl
  rw [HV.out] at c1
  have P := fun q => placeAny (HR.out.drewN q) hfl h4 n (by omega)
  generalize pos ds.length f n = r0 at *
  go_quiet ((go_at_call 179; exact Calls.quiet_of (P _)))
  clear P c1 c2
  go_wp2
  go_ret2
  obtain ⟨k4, k3, k5, k6, k7⟩ := HS.out
  exact ⟨rfl, did_mk (by rw [HN.out]; exact HR.out.drewN _) HH.out k3 k4 k5 k6 k7 (HW.out.drewN _)⟩

set_option maxRecDepth 100000 in
set_option maxHeartbeats 1600000 in
theorem pushROk (h : Rng w F p most zs) (x : Int) (hf : (zs.length : Int) < most) :
    Calls Tryz.prog 190 #[.pointer (some ⟨p, 0, none⟩), .int .i32 x] w fun e w' => e = .returned (.bool true) ∧ Did F p most (zs ++ [x]) w w' := by
  have L := lenAny h
  have M := mostAny h
  have hz := h.len
  obtain ⟨g, ds, f, h1, h2, h3, h4, h5, h6, h7⟩ := h
  have hr : zs.length < ds.length := by omega
  have hfl := h2.lt (by omega)
  have hpl := pos_lt hfl (show zs.length ≤ ds.length by omega)
  have HH := Lib.hid (h2.pushR hr x)
  have HS := Lib.hid (show (ds.length ≤ 1000 ∧ most = ds.length ∧ F p ∧ F g ∧ ∀ k, F k → k < w.heap.size) from ⟨h4, h3, h5, h6, h7⟩)
  have HR := Lib.hid h1
  have c2 := h1.c2
  clear h1 h2 h3 h5 h6 h7
  go_enter Tryz.func190, Tryz.ntmps190
  go_wp2_with (first | (go_at_call 177; refine L.mono ?_; rintro e w' ⟨rfl, rfl⟩) | (go_at_call 186; refine M.mono ?_; rintro e w' ⟨rfl, rfl⟩))
  clear L M
  have P := fun q => placeAny (HR.out.drewN q) hfl h4 zs.length (by omega)
  have C := fun q => (HR.out.drewN q).cell _ hpl
  have D := fun q => (HR.out.drewN q).fg (pos ds.length f zs.length)
  go_region_with (go_at_call 179; refine (P _).mono ?_; rintro e w' ⟨rfl, q, rfl⟩)
  have HR3 := Lib.hid ((HR.out.drewN (1 + q)).setItem (pos ds.length f zs.length) x)
  have HW3 := Lib.hid (((Wrote.refl F w).drewN (1 + q)).setCell (q := ⟨g, pos ds.length f zs.length, none⟩) (.inr HS.out.2.2.2.1) (.int .i32 x))
  clear P C D c2
  generalize (w.drewN (1 + q)).setCell ⟨g, pos ds.length f zs.length, none⟩ (.int .i32 x) = w3 at *
  have c2 := HR3.out.c2
  have f2 := HR3.out.fp 2
  go_wp2
  go_ret
  obtain ⟨k4, k3, k5, k6, k7⟩ := HS.out
  exact ⟨rfl, did_mk (HR3.out.setMany _ _ (by simp)) HH.out (by rw [List.length_set]; exact k3) (by rw [List.length_set]; exact k4) k5 k6 k7 (HW3.out.setCell (q := ⟨p, 2, none⟩) (.inr k5) _)⟩
end

def SeqOf (F : Fence) (n : Nat) (P : Program) (gf : Nat) (r : Value) (encs : Nat → Array Value) (N : Nat) (I : Nat → World → Prop) : Prop :=
  ∀ (l : Nat) (J : Nat → World → Prop) (W : World), (∀ k A, J k A → I k A) → (∀ k A q, J k A → J k (A.drewN q)) →
    (∀ k A, J k A → k < N → YieldAt F (n - 1) P l (encs k) A fun e A' => e = .returned (.bool true) ∧ J (k + 1) A') → J 0 W →
    CallsIn F n P gf #[r, .func (.yield l) #[] #[]] W fun e W' => (∃ v, e = .returned v) ∧ J N W'

def LoopAt (D : Nat) (o : Obj) (W : World) : Prop := W.heap[D + 1]? = some o ∧ W.heap[D]? = some (.deferred (some []))

theorem wpIn_rangeMethod {F : Fence} {n : Nat} {P : Program} {g : Operand} {ps : Array Tmp} {assign body : Code} {Q : Exit → Act → World → Prop} {a : Act} {w : World}
    (hro : F.round = none) (h1 : 1 ≤ n) {gf : Nat} {r : Value} (hg : a.eval g = .func (.func gf) #[r] #[]) (hFg : F.fn gf) (eg : ∀ args w, (callFunc gf args).run P w = .ok (.enter gf args) w)
    (encs : Nat → Array Value) (hps : ∀ x, (encs x).size = ps.size) (N : Nat) (I : Nat → World → Prop) (hseq : SeqOf F (n - 1) P gf r encs N I) (hI : OwnFrom w.heap.size I) (h0 : I 0 w) (a₁ : Nat → Act)
    (hassign : ∀ (l k : Nat) (W : World) (K : Act → World → Prop), K (a₁ k) W →
      assign.wpIn (F.inRound l) (n - 1 - 1) P (Exit.then K (fun _ _ _ => False)) { tmps := (ps.zip (encs k)).foldl (fun t (p, v) => t.setIfInBounds p v) a.tmps, defers := [] } W)
    (hbody : ∀ (l k : Nat) (W : World), I k W → k < N → body.wpIn (F.inRound l) (n - 1 - 1) P (fun e _ W' => e = .normal ∧ KeepsFrom w.heap.size W W' ∧ I (k + 1) W') (a₁ k) W)
    (hdone : ∀ (D : Nat) (W : World), w.heap.size ≤ D → I N W → W.heap[D]? = some (.deferred (some [])) → Q .normal { a with defers := { target := .collected D, args := #[] } :: a.defers } W) :
    (Code.rangeFunc g ps assign body).wpIn F n P Q a w := by
  refine wpIn_rangeFunc fun fn hfn => ?_
  rw [hro]
  have htell (st : LoopState) : ∃ lp : Loop, lp = { state := st, pending := none, fn, tmps := a.tmps, params := ps, assign, body, defers := w.heap.size } := ⟨_, rfl⟩
  obtain ⟨ready, hready⟩ := htell .ready
  obtain ⟨busy, hbusy⟩ := htell .busy
  obtain ⟨V, hV⟩ : ∃ V, (w.alloc (.deferred (some []))).alloc (.loop ready) = V := ⟨_, rfl⟩
  have at0 : LoopAt w.heap.size (.loop ready) V := by
    subst hV
    refine ⟨?_, (Below.heap_alloc _ _ _ (by simp)).trans (World.alloc_heap_new w _)⟩
    have := World.alloc_heap_new (w.alloc (.deferred (some []))) (.loop ready)
    rwa [World.size_alloc] at this
  have i0 : I 0 V := by subst hV; exact hI.alloc _ (hI.alloc _ h0)
  refine ⟨w.heap.size + 1, [{ target := .collected w.heap.size, args := #[] }], V, { target := .fn (.func gf) #[], args := #[r, .func (.yield (w.heap.size + 1)) #[] #[]] }, V, gf, #[r, .func (.yield (w.heap.size + 1)) #[] #[]], V, ?_, ?_, ?_, ?_, fun _ => h1, ?_⟩
  · subst hV hready; exact run_enterLoop_outer _ _ _ _ _
  · simp only [resolve, hg]; simp [go_sem]
  · intro f' hf'; simp [Target.leads] at hf'; subst hf'; exact hFg
  · simp [invoke, go_sem, eg]
  · refine (hseq (w.heap.size + 1) (fun k W => I k W ∧ LoopAt w.heap.size (.loop ready) W) V (fun _ _ h => h.1)
      (fun k A q h => ⟨hI k A _ none h.1 ⟨rfl, rfl, rfl, Nat.le_refl _, fun _ _ _ => rfl⟩ (fun r e => by cases e), h.2⟩) ?_ ⟨i0, at0⟩).mono ?_
    · rintro k W ⟨hi, hl, hd⟩ hk
      have hlt := (Array.getElem?_eq_some_iff.1 hl).1
      have hy := run_yield (P := P) (args := encs k) hl (by rw [hready]; exact hps k)
      rw [hready] at hy
      refine ⟨fn, _, assign, body, hy, roundIn_of_wpIn hfn (hassign _ k W _ ?_)⟩
      refine ⟨W.putObj (w.heap.size + 1) (.loop busy), by have := run_beginRound (P := P) hl (by rw [hready]); subst hready hbusy; exact this, ?_⟩
      have hl2 : (W.putObj (w.heap.size + 1) (.loop busy)).heap[w.heap.size + 1]? = some (.loop busy) := World.putObj_heap_same hlt
      have hd2 : (W.putObj (w.heap.size + 1) (.loop busy)).heap[w.heap.size]? = some (.deferred (some [])) := (World.putObj_heap_other (by omega)).trans hd
      refine wpIn_mono (hbody _ k _ (hI.putObj _ hi (by omega) hl rfl) hk) ?_
      rintro e a3 W3 ⟨rfl, hkeep, hi3⟩
      have hl3 := hkeep.same _ _ (by omega) hl2 rfl
      have hd3 := hkeep.same _ _ (Nat.le_refl _) hd2 rfl
      refine ⟨_, W3.putObj (w.heap.size + 1) (.loop ready), by have := run_endRound (P := P) none hl3; subst hready hbusy; exact this, rfl, hI.putObj _ hi3 (by omega) hl3 rfl, World.putObj_heap_same (Array.getElem?_eq_some_iff.1 hl3).1, (World.putObj_heap_other (by omega)).trans hd3⟩
    · rintro e W2 ⟨⟨v, rfl⟩, hi, hl, hd⟩
      refine ⟨none, _, by have := run_endLoop (P := P) hl (by rw [hready]; simp); rw [hready] at this; exact this, hdone w.heap.size _ (Nat.le_refl _) (hI.putObj _ hi (by omega) hl rfl) ((World.putObj_heap_other (by omega)).trans hd)⟩

attribute [local go_sem] Oper.semAt_some

def itemV (zs : List Int) (k : Nat) : Array Value := #[.int .i32 (zs.getD k 0)]

set_option maxRecDepth 100000 in
set_option maxHeartbeats 2000000 in
theorem allSeq (n : Nat) {p g f : Nat} {ds zs : List Int} (hh : Holds ds f zs) (hl : ds.length ≤ 1000) (I : Nat → World → Prop) (hI : ∀ k W, I k W → Raw W p g ds f zs.length) :
    SeqOf Fence.wide n Tryz.prog 178 (.pointer (some ⟨p, 0, none⟩)) (itemV zs) zs.length I := by
  intro l J W hJI hJd hY h0
  have c2 := (hI 0 W (hJI 0 W h0)).c2
  have hro := hh.room
  have HJI := Lib.hid (fun k A h => hI k A (hJI k A h))
  have HJD := Lib.hid hJd
  have HY := Lib.hid hY
  have HH := Lib.hid hh
  clear hh hI hJI hJd hY
  refine callsIn_of_wp Tryz.func178 rfl trivial ?_ rfl
  simp only [Tryz.ntmps178, List.size_toArray, List.length_cons, List.length_nil, Nat.reduceAdd, Nat.reduceSub, Array.replicate_succ, Array.replicate_zero, List.push_toArray, List.append_toArray, List.nil_append, List.cons_append]
  gi_wp2
  gi_loopw [9] (fun i wr => ∃ k : Nat, k ≤ zs.length ∧ i = .int .i64 k ∧ J k wr) (fun i _ => zs.length - (intOf i).toNat)
  case atStart => exact ⟨0, Nat.zero_le _, rfl, h0⟩
  case round =>
    obtain ⟨k, hk, rfl, hJ⟩ := hrel
    clear c2 h0
    by_cases hlt : k < zs.length
    · have hr := HJI.out k wr hJ
      have hfl := HH.out.lt (by omega)
      have hpl := pos_lt hfl (show k ≤ ds.length by omega)
      have C := placeAny hr hfl hl k (by omega)
      have HR := Lib.hid hr
      have HV := Lib.hid (HH.out.item k hlt)
      have HJ := Lib.hid hJ
      have i0 : (k : Int) < zs.length := by omega
      clear hr hJ
      gi_wp2_with fail
      refine ⟨trivial, ?_⟩
      refine ⟨(fun h => by simp [Fence.wide] at h), ?_⟩
      refine (callsIn_wide.2 C).mono ?_
      clear C
      rintro e w1 ⟨rfl, q, rfl⟩
      have c := (HR.out.drewN q).cell _ hpl
      rw [HV.out] at c
      have HJ1 := Lib.hid (HJD.out k wr q HJ.out)
      clear HR HJ
      generalize wr.drewN q = W1 at *
      generalize pos ds.length f k = r0 at *
      obtain ⟨fn, tmps, assign, body, hy, hR⟩ := HY.out k W1 HJ1.out hlt
      have HR := Lib.hid hR
      clear hR
      simp only [itemV] at hy
      generalize zs.getD k 0 = y at *
      gi_wp2_with fail
      refine ⟨(fun h => by simp [Fence.wide] at h), HR.out.mono ?_⟩
      rintro e3 W3 ⟨rfl, hJ3⟩
      have HJ3 := Lib.hid hJ3
      clear hJ3 c hy
      gi_wp2
      go_roundw
      case rel => exact ⟨k + 1, by omega, by go_num, HJ3.out⟩
      case measure => simp [intOf]; omega
    · obtain rfl : k = zs.length := by omega
      have HJ := Lib.hid hJ
      clear hJ
      gi_wp2
      go_end0
      exact ⟨⟨_, rfl⟩, HJ.out⟩

def Told (w : World) (zs : List Int) (e : Ending) (w' : World) : Prop :=
  e = .returned (.slice (some ⟨w.heap.size, 0, none⟩) zs.length zs.length) ∧ w'.ownsRow w.heap.size 21 1 (.slice (some ⟨w.heap.size, 0, none⟩) zs.length zs.length) zs.length (zs.map (Value.int .i32)) ∧ Below w.heap.size w w'

def Inv (w : World) (B p g f : Nat) (ds zs : List Int) (k : Nat) (W : World) : Prop :=
  (∃ v, Boxed W B 59 v ∧ W.ownsRow w.heap.size 21 1 v k ((zs.take k).map (Value.int .i32)) ∧ v = .slice (some ⟨w.heap.size, 0, none⟩) k zs.length) ∧ Raw W p g ds f zs.length ∧ Below w.heap.size w W

theorem raw_own {β : Type} (p g : Nat) (ds : List Int) (f n : Nat) : Own (fun (_ : β) W => Raw W p g ds f n) := fun s X Y row hs hg hrow => by
  refine hs.keep (hg.block p hs.lt fun e => ?_) (hg.block g hs.ltg fun e => ?_)
  · obtain ⟨o, ho, hc⟩ := hrow p e.symm
    rw [hs.block] at ho; cases ho; cases hc
  · obtain ⟨o, ho, hc⟩ := hrow g e.symm
    rw [hs.data] at ho; cases ho; cases hc

theorem Inv.own (w : World) (B p g f : Nat) (ds zs : List Int) (n : Nat) (hn : w.heap.size ≤ n) : OwnFrom n (Inv w B p g f ds zs) :=
  OwnFrom.and (Own.from (holdsRow_own w.heap.size B 59 21 1 (fun k => k) (fun k => (zs.take k).map (Value.int .i32)) (fun k v => v = .slice (some ⟨w.heap.size, 0, none⟩) k zs.length)) _)
    (OwnFrom.and (Own.from (raw_own p g ds f zs.length) _) (ownFrom_below (Nat.le_refl _) hn))

theorem itemsRound {w W w4 : World} {B p g f k n : Nat} {ds : List Int} {x : Value} {xs : List Value} {tmp : Obj} {v v' : Value}
    (hv : Boxed W B 59 v) (hrow : W.ownsRow w.heap.size 21 1 v k xs) (hr : Raw W p g ds f n) (hB : Below w.heap.size w W) (hsz : w.heap.size ≤ B)
    (hown : w4.ownsRow w.heap.size 21 1 v' (k + 1) (xs ++ [x])) (hg : (W.alloc tmp).grownBy w4 v.ownBlock) (hp : p < w.heap.size) (hgg : g < w.heap.size) :
    Boxed w4 B 59 v ∧ (∀ m, KeepsFrom m W (w4.setCell ⟨B, 0, none⟩ v')) ∧ Boxed (w4.setCell ⟨B, 0, none⟩ v') B 59 v' ∧ (w4.setCell ⟨B, 0, none⟩ v').ownsRow w.heap.size 21 1 v' (k + 1) (xs ++ [x]) ∧
    Raw (w4.setCell ⟨B, 0, none⟩ v') p g ds f n ∧ Below w.heap.size w (w4.setCell ⟨B, 0, none⟩ v') := by
  obtain ⟨a1, a2, a3, a4, a5⟩ := hv.appended (by decide) hrow hB.size hsz hown hg
  exact ⟨a1, fun _ => a4.from _, a2, a3, hr.keep (a5.block p hp) (a5.block g hgg), hB.trans a5⟩

set_option maxRecDepth 100000 in
set_option maxHeartbeats 4000000 in
theorem itemsAny {w : World} {F : Nat → Prop} {p : Nat} {most : Int} {zs : List Int} (h : Rng w F p most zs) :
    Calls Tryz.prog 176 #[.pointer (some ⟨p, 0, none⟩)] w (Told w zs) := by
  have hz := h.len
  obtain ⟨g, ds, f, h1, h2, _, h4, _⟩ := h
  obtain ⟨i0, hi, hz0, hz1, hz2⟩ := info_parts infoI32
  have c2 := h1.c2
  have HR := Lib.hid h1
  have HH := Lib.hid h2
  clear h1 h2
  refine (callsIn_wide (n := 3)).1 ?_
  refine callsIn_of_wp_marks Tryz.func176 rfl trivial ?_ rfl
  simp only [Tryz.ntmps176, List.size_toArray, List.length_cons, List.length_nil, Nat.reduceAdd, Nat.reduceSub, Array.replicate_succ, Array.replicate_zero, List.push_toArray, List.append_toArray, List.nil_append, List.cons_append]
  gi_wp2_with (gi_at_make; refine wpListIn_make_own _ rfl _ _ 59 rfl w.heap.size 21 i0 _ 1 Tryz.underlying59 hi hz0 hz1 .i64 .i64 _ zs.length rfl rfl rfl (by rw [hz2]; omega) (by simp only [maxLen]; omega) (Nat.le_refl _) ?_; intro w1 hown1 hgrow1; have HO1 := Lib.hid hown1; have HG1 := Lib.hid hgrow1; clear hown1 hgrow1)
  have bL := Boxed.new w1 59 (.slice (some ⟨w.heap.size, 0, none⟩) 0 zs.length)
  have oW := HO1.out.alloc (.cells #[.slice (some ⟨w.heap.size, 0, none⟩) 0 zs.length] 59)
  have b1 : Below w.heap.size w w1 := (Below.refl _ w).grown HG1.out (Nat.le_refl _) (fun k e => by cases e)
  have bW := b1.alloc b1.size (.cells #[.slice (some ⟨w.heap.size, 0, none⟩) 0 zs.length] 59)
  have hsz := b1.size
  generalize w1.alloc (.cells #[.slice (some ⟨w.heap.size, 0, none⟩) 0 zs.length] 59) = W0 at *
  clear b1 HO1 HG1
  generalize w1.heap.size = B at *
  have rW := HR.out.keep (bW.block p HR.out.lt) (bW.block g HR.out.ltg)
  have lt0 := bL.lt
  refine wpIn_rangeMethod rfl (by omega) (gf := 178) (r := .pointer (some ⟨p, 0, none⟩)) rfl trivial (enters_of Tryz.func178 (by kernel_rfl) rfl) (itemV zs) (fun _ => rfl) zs.length
    (Inv w B p g f ds zs) (allSeq (3 - 1) HH.out h4 _ (fun k W h => h.2.1)) (Inv.own w B p g f ds zs _ bW.size) ⟨⟨_, bL, by simpa using oW, rfl⟩, rW, bW⟩
    (fun k => { tmps := #[.pointer (some ⟨p, 0, none⟩), undef, .slice none 0 0, .pointer (some ⟨B, 0, none⟩), .int .i32 (zs.getD k 0), .pointer (some ⟨p, 0, none⟩), .bool false, .pointer (some ⟨p, 0, none⟩), .pointer (some ⟨p, 0, none⟩), .pointer (some ⟨p, 0, none⟩), .pointer (some ⟨p, 2, none⟩), .int .i64 zs.length, .slice (some ⟨w.heap.size, 0, none⟩) 0 zs.length, .pointer (some ⟨p, 0, none⟩), .pointer (some ⟨p, 0, none⟩), .pointer (some ⟨p, 0, none⟩), .func (.func 178) #[.pointer (some ⟨p, 0, none⟩)] #[], .int .i32 (zs.getD k 0), undef, undef, undef, undef, undef], defers := [] }) ?assign ?body ?done
  case assign =>
    intro l k W K hK
    simp only [itemV]
    gi_wp2
    exact hK
  case body =>
    rintro l k W ⟨⟨v, hv, hrow, rfl⟩, hr, hB⟩ hlt
    have hc := hv.cell
    have HV := Lib.hid hv
    have HRow := Lib.hid hrow
    have HRaw := Lib.hid hr
    have HE := Lib.hid hB
    have HBn := Lib.hid hsz
    have HT := Lib.hid (show (zs.take k).map (Value.int .i32) ++ [.int .i32 (zs.getD k 0)] = (zs.take (k + 1)).map (Value.int .i32) by rw [List.take_succ_eq_append_getElem hlt, List.map_append]; congr 1; simp [List.getD, hlt])
    clear hv hrow hr hB rW bW oW bL hsz lt0 c2
    generalize zs.getD k 0 = y at *
    gi_wp2_with (gi_at_builtin; refine wpListIn_append_fits _ rfl _ _ 59 rfl w.heap.size 21 i0 1 Tryz.underlying59 hi hz1 w.heap.size k zs.length _ rfl (HRow.out.alloc _) ⟨W.heap.size, 0, none⟩ 1 1 [.int .i32 y] rfl rfl (by intro j u hu; cases j <;> simp at hu; subst hu; go_simp) (by intro u hu; simp at hu; subst hu; rfl) (by omega) ?_; intro w4 hown' hgrow; have HA := Lib.hid (itemsRound HV.out HRow.out HRaw.out HE.out HBn.out hown' hgrow HR.out.lt HR.out.ltg); clear hown' hgrow; have k4 := HA.out.1.cell; have f4 := HA.out.1.frozen)
    obtain ⟨_, a1, a2, a3, a4, a5⟩ := HA.out
    exact ⟨a1 _, ⟨_, a2, by rw [← HT.out]; exact a3, rfl⟩, a4, a5⟩
  case done =>
    rintro D W hD ⟨⟨v, hv, hrow, rfl⟩, hr, hB⟩ hK
    have hc := hv.cell
    have HRow := Lib.hid hrow
    have HE := Lib.hid hB
    have HD := Lib.hid hD
    have HW := Lib.hid bW
    clear hrow hB hr rW bW oW bL hD c2
    gi_wp2
    refine ⟨by simp, .inl ⟨_, _, rfl, run_takeDeferred hK, ?_⟩⟩
    refine ⟨_, results_tmp rfl _ _ _, rfl, ownsRow_putObj (by have := HRow.out; rwa [List.take_of_length_le (Nat.le_refl _)] at this) _ hK rfl, HE.out.trans (belowK_b (w := w) (Nat.le_refl _) W D _ _ (Nat.le_trans HW.out.size HD.out) hK rfl rfl)⟩

end Go.Proofs.YtikaoikladbdpaaGreat.D10
namespace Go.Proofs.YtikaoikladbdpaaGreat.D10

def dqAt (most : Int) (s0 : List Int) (ks : Nat → Int) : Nat → List Int
  | 0 => s0
  | k + 1 => dqL most (dqAt most s0 ks k) (ks k) k
def dqP (s : List Int) (kind : Int) : Int := if kind = 3 then s.headD (-1) else if kind = 4 then s.getLastD (-1) else -1
def dcL (most : Int) (s0 : List Int) (ks : Nat → Int) (n : Nat) : List Int := (List.range n).map fun k => dqC most (dqAt most s0 ks k) (ks k)
def dpL (most : Int) (s0 : List Int) (ks : Nat → Int) (n : Nat) : List Int := (List.range n).map fun k => dqP (dqAt most s0 ks k) (ks k)
def olds (t : Int) : List Int := List.replicate t.toNat (-1)

section
variable {most : Int} {s0 : List Int} {ks : Nat → Int} {n k : Nat}
theorem dcL_length : (dcL most s0 ks n).length = n := by simp [dcL]
theorem dpL_length : (dpL most s0 ks n).length = n := by simp [dpL]
theorem dcL_snoc : dcL most s0 ks (n + 1) = dcL most s0 ks n ++ [dqC most (dqAt most s0 ks n) (ks n)] := by simp [dcL, List.range_succ]
theorem dpL_snoc : dpL most s0 ks (n + 1) = dpL most s0 ks n ++ [dqP (dqAt most s0 ks n) (ks n)] := by simp [dpL, List.range_succ]
theorem dcL_getD (h : k < n) : (dcL most s0 ks n).getD k 0 = dqC most (dqAt most s0 ks k) (ks k) := by simp [dcL, List.getD, h]
theorem dpL_getD (h : k < n) : (dpL most s0 ks n).getD k 0 = dqP (dqAt most s0 ks k) (ks k) := by simp [dpL, List.getD, h]

def dcK (most : Int) (s0 : List Int) (ks : Nat → Int) (n k : Nat) : List Int := dcL most s0 ks k ++ List.replicate (n - k) 0
def dpK (most : Int) (s0 : List Int) (ks : Nat → Int) (n k : Nat) : List Int := dpL most s0 ks k ++ List.replicate (n - k) (-1)
theorem dcK_length (h : k ≤ n) : (dcK most s0 ks n k).length = n := by simp [dcK, dcL_length]; omega
theorem dcK_all : dcK most s0 ks n n = dcL most s0 ks n := by simp [dcK]
theorem dpK_all : dpK most s0 ks n n = dpL most s0 ks n := by simp [dpK]
theorem dcK_none : dcK most s0 ks n 0 = List.replicate n 0 := by simp [dcK, dcL]
theorem dpK_none : dpK most s0 ks n 0 = List.replicate n (-1) := by simp [dpK, dpL]
theorem dcK_put (h : k < n) : (dcK most s0 ks n k).set k (dqC most (dqAt most s0 ks k) (ks k)) = dcK most s0 ks n (k + 1) := by
  unfold dcK
  rw [List.set_append_right _ _ (by rw [dcL_length]; omega), dcL_length, Nat.sub_self, show n - k = (n - (k + 1)) + 1 by omega, List.replicate_succ, List.set_cons_zero, dcL_snoc]
  simp
theorem dpK_put (h : k < n) : (dpK most s0 ks n k).set k (dqP (dqAt most s0 ks k) (ks k)) = dpK most s0 ks n (k + 1) := by
  unfold dpK
  rw [List.set_append_right _ _ (by rw [dpL_length]; omega), dpL_length, Nat.sub_self, show n - k = (n - (k + 1)) + 1 by omega, List.replicate_succ, List.set_cons_zero, dpL_snoc]
  simp
theorem dpK_same (h : k < n) (e : dqP (dqAt most s0 ks k) (ks k) = -1) : dpK most s0 ks n k = dpK most s0 ks n (k + 1) := by
  unfold dpK
  rw [dpL_snoc, e, show n - k = (n - (k + 1)) + 1 by omega, List.replicate_succ]
  simp

structure DqOk (most : Int) (k : Nat) (s : List Int) : Prop where
  room : (s.length : Int) ≤ most
  places : ∀ j ∈ s, -1 ≤ j ∧ j < k

theorem dqL_ok {s : List Int} (h : DqOk most k s) (kind : Int) : DqOk most (k + 1) (dqL most s kind k) := by
  obtain ⟨h3, h4⟩ := h
  have up : ∀ j ∈ s, -1 ≤ j ∧ j < ((k + 1 : Nat) : Int) := fun j hj => by have := h4 j hj; omega
  unfold dqL
  split
  · split
    · refine ⟨by simp; omega, fun j hj => ?_⟩
      simp only [List.mem_cons] at hj
      rcases hj with rfl | hj
      · omega
      · exact up j hj
    · exact ⟨h3, up⟩
  · split
    · split
      · refine ⟨by simp; omega, fun j hj => ?_⟩
        simp only [List.mem_append, List.mem_singleton] at hj
        rcases hj with hj | rfl
        · exact up j hj
        · omega
      · exact ⟨h3, up⟩
    · split
      · exact ⟨by simp only [List.length_tail]; omega, fun j hj => up j (List.mem_of_mem_tail hj)⟩
      · split
        · exact ⟨by simp only [List.length_dropLast]; omega, fun j hj => up j (List.dropLast_subset _ hj)⟩
        · exact ⟨h3, up⟩
theorem dqAt_ok (h0 : DqOk most 0 s0) (ks : Nat → Int) : ∀ k, DqOk most k (dqAt most s0 ks k)
  | 0 => h0
  | k + 1 => by simpa [dqAt] using dqL_ok (dqAt_ok h0 ks k) (ks k)
theorem olds_ok {t : Int} (h0 : 0 ≤ t) (h1 : t ≤ most) : DqOk most 0 (olds t) := by
  refine ⟨by simp [olds]; omega, fun j hj => ?_⟩
  have := List.eq_of_mem_replicate hj
  omega
theorem headD_in {s : List Int} {P : Int → Prop} (h : ∀ j ∈ s, P j) (d : Int) (hd : P d) : P (s.headD d) := by
  cases s with
  | nil => exact hd
  | cons x l => exact h x (by simp)
theorem getLastD_in {s : List Int} {P : Int → Prop} (h : ∀ j ∈ s, P j) (d : Int) (hd : P d) : P (s.getLastD d) := by
  rcases List.eq_nil_or_concat s with e | ⟨l, x, e⟩
  · rw [e]; exact hd
  · rw [List.concat_eq_append] at e
    rw [e, List.getLastD_concat]
    exact h x (by rw [e]; simp)
theorem dqP_in {s : List Int} (h : DqOk most k s) (kind : Int) : -1 ≤ dqP s kind ∧ dqP s kind < k := by
  unfold dqP
  split
  · exact headD_in h.places _ (by omega)
  · split
    · exact getLastD_in h.places _ (by omega)
    · omega
structure Once (s : List Int) (k : Nat) : Prop where
  low : ∀ j ∈ s, j < k
  one : ∀ j, 0 ≤ j → s.count j ≤ 1
theorem Once.put {s : List Int} (h : Once s k) (left : Bool) : Once (if left then (k : Int) :: s else s ++ [(k : Int)]) (k + 1) := by
  have hk : s.count (k : Int) = 0 := List.count_eq_zero.2 fun hm => by have := h.low _ hm; omega
  refine ⟨fun j hj => ?_, fun j hj => ?_⟩
  · have : j = k ∨ j ∈ s := by
      cases left
      · simp only [Bool.false_eq_true, if_false, List.mem_append, List.mem_singleton] at hj
        exact hj.symm
      · simp only [if_true, List.mem_cons] at hj
        exact hj
    rcases this with rfl | hm
    · omega
    · have := h.low j hm; omega
  · by_cases e : j = k
    · subst e
      cases left <;> simp [List.count_append, hk]
    · have e' : ¬ (k : Int) = j := fun x => e x.symm
      have := h.one j hj
      cases left <;> simp [List.count_append, List.count_cons, e'] <;> omega
theorem Once.sub {s l : List Int} (h : Once s k) (hs : List.Sublist l s) : Once l (k + 1) :=
  ⟨fun j hj => by have := h.low j (hs.subset hj); omega, fun j hj => Nat.le_trans (hs.count_le j) (h.one j hj)⟩
theorem once_olds (t : Int) : Once (olds t) 0 := by
  refine ⟨fun j hj => ?_, fun j hj => ?_⟩
  · have := List.eq_of_mem_replicate hj; omega
  · rw [olds, List.count_replicate]
    have : ¬ (-1 : Int) = j := by omega
    simp [this]
theorem once_step {s : List Int} (h : Once s k) (kind : Int) : Once (dqL most s kind k) (k + 1) := by
  unfold dqL
  split
  · split
    · exact h.put true
    · exact h.sub (List.Sublist.refl _)
  · split
    · split
      · exact h.put false
      · exact h.sub (List.Sublist.refl _)
    · split
      · exact h.sub (List.tail_sublist _)
      · split
        · exact h.sub (List.dropLast_sublist _)
        · exact h.sub (List.Sublist.refl _)
theorem once_at (h0 : Once s0 0) (ks : Nat → Int) : ∀ k, Once (dqAt most s0 ks k) k
  | 0 => h0
  | k + 1 => once_step (once_at h0 ks k) (ks k)

theorem met_gone {s : List Int} (h : Once s k) (kind : Int) (hp : 0 ≤ dqP s kind) : dqP s kind ∉ dqL most s kind k := by
  unfold dqP dqL at *
  by_cases h3 : kind = 3
  · subst h3
    simp only [if_true, if_neg (show ¬ (3 : Int) = 1 by omega), if_neg (show ¬ (3 : Int) = 2 by omega)] at *
    cases s with
    | nil => simp at hp
    | cons x l =>
      simp only [List.headD_cons, List.tail_cons] at *
      intro hm
      have := h.one x hp
      rw [List.count_cons_self] at this
      have := List.count_pos_iff.2 hm
      omega
  · by_cases h4 : kind = 4
    · subst h4
      simp only [if_true, if_neg (show ¬ (4 : Int) = 1 by omega), if_neg (show ¬ (4 : Int) = 2 by omega), if_neg (show ¬ (4 : Int) = 3 by omega)] at *
      rcases List.eq_nil_or_concat s with e | ⟨l, x, e⟩
      · rw [e] at hp; simp at hp
      · rw [List.concat_eq_append] at e
        subst e
        rw [List.getLastD_concat, List.dropLast_concat] at *
        intro hm
        have h1 := h.one x hp
        rw [List.count_append, List.count_singleton_self] at h1
        have h2 := List.count_pos_iff.2 hm
        omega
    · simp only [if_neg h3, if_neg h4] at hp
      omega
theorem gone_stays {s : List Int} {j : Int} (h : j ∉ s) (hj : j < k) (kind : Int) : j ∉ dqL most s kind k := by
  unfold dqL
  repeat' split
  · simp only [List.mem_cons, not_or]; exact ⟨by omega, h⟩
  · exact h
  · simp only [List.mem_append, List.mem_singleton, not_or]; exact ⟨h, by omega⟩
  · exact h
  · exact fun hm => h (List.mem_of_mem_tail hm)
  · exact fun hm => h (List.dropLast_subset _ hm)
  · exact h
theorem gone_later {j : Int} {k : Nat} (h : j ∉ dqAt most s0 ks k) (hj : j < k) : ∀ d, j ∉ dqAt most s0 ks (k + d)
  | 0 => h
  | d + 1 => gone_stays (k := k + d) (gone_later h hj d) (by omega) _
theorem met_later (h0 : Once s0 0) {k i : Nat} (hki : k < i) (hp : 0 ≤ dqP (dqAt most s0 ks k) (ks k)) : dqP (dqAt most s0 ks k) (ks k) ∉ dqAt most s0 ks i := by
  obtain ⟨d, rfl⟩ := Nat.exists_eq_add_of_le hki
  have ho := once_at (most := most) h0 ks k
  have hl : dqP (dqAt most s0 ks k) (ks k) < (k + 1 : Nat) := by
    have : dqP (dqAt most s0 ks k) (ks k) < k := by
      unfold dqP
      split
      · exact headD_in ho.low _ (by omega)
      · split
        · exact getLastD_in ho.low _ (by omega)
        · omega
    omega
  exact gone_later (k := k + 1) (met_gone ho (ks k) hp) hl d
theorem met_in {s : List Int} {kind : Int} (hp : 0 ≤ dqP s kind) : dqP s kind ∈ s := by
  unfold dqP at *
  split
  · rename_i h3
    rw [if_pos h3] at hp
    cases s with
    | nil => simp at hp
    | cons x l => simp
  · rename_i h3
    rw [if_neg h3] at hp
    split
    · rename_i h4
      rw [if_pos h4] at hp
      rcases List.eq_nil_or_concat s with e | ⟨l, x, e⟩
      · rw [e] at hp; simp at hp
      · rw [List.concat_eq_append] at e
        rw [e, List.getLastD_concat]; simp
    · rename_i h4
      rw [if_neg h4] at hp
      omega
theorem stood {j : Int} (h0 : ∀ j ∈ s0, j < 0) (hj : 0 ≤ j) : ∀ k, j ∈ dqAt most s0 ks k → j < k ∧ (ks j.toNat = 1 ∨ ks j.toNat = 2) ∧ dqC most (dqAt most s0 ks j.toNat) (ks j.toNat) = 1
  | 0, h => by have := h0 j h; omega
  | k + 1, h => by
    by_cases hm : j ∈ dqAt most s0 ks k
    · obtain ⟨h1, h2, h3⟩ := stood h0 hj k hm
      exact ⟨by omega, h2, h3⟩
    · simp only [dqAt] at h
      have hk : j = k ∧ (ks k = 1 ∨ ks k = 2) ∧ ((dqAt most s0 ks k).length : Int) < most := by
        unfold dqL at h
        split at h
        · rename_i h1
          split at h
          · rename_i h2
            simp only [List.mem_cons] at h
            rcases h with h | h
            · exact ⟨h, .inl h1, h2⟩
            · exact absurd h hm
          · exact absurd h hm
        · split at h
          · rename_i h1
            split at h
            · rename_i h2
              simp only [List.mem_append, List.mem_singleton] at h
              rcases h with h | h
              · exact absurd h hm
              · exact ⟨h, .inr h1, h2⟩
            · exact absurd h hm
          · split at h
            · exact absurd (List.mem_of_mem_tail h) hm
            · split at h
              · exact absurd (List.dropLast_subset _ h) hm
              · exact absurd h hm
      obtain ⟨rfl, h2, h3⟩ := hk
      rw [show ((k : Nat) : Int).toNat = k by omega]
      refine ⟨by omega, h2, ?_⟩
      unfold dqC
      rw [if_pos h2, if_pos h3]
end

end Go.Proofs.YtikaoikladbdpaaGreat.D10
