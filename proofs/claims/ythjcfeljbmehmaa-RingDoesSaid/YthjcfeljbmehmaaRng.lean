/-
  What a deque of package ring is in the model's world, and what New, Len, Most, PushL, PushR, PopL and PopR do, at every deque and at nil. Conditions: a deque as Rng says.
-/
import Derived.Test.YthjcfeljbmehmaaRngPlain
namespace Go.Proofs.Ythjcfeljbmehmaa
open Go.RowKit

/-- A circle at block p: its cells are ds in block g, its first item is said to stand at f, and there are said to be n. -/
structure Raw (w : World) (p g : Nat) (ds : List Int) (f n : Nat) : Prop where
  block : w.heap[p]? = some (.cells #[.slice (some ⟨g, 0, none⟩) ds.length ds.length, .int .i64 f, .int .i64 n] 57 (0, 0))
  data : w.heap[g]? = some (.cells (ds.map (Value.int .i32)).toArray 21 (0, 0))

section
variable {w w' : World} {p g : Nat} {ds : List Int} {f n : Nat}
theorem Raw.lt (h : Raw w p g ds f n) : p < w.heap.size := lt_of_block h.block
theorem Raw.ltg (h : Raw w p g ds f n) : g < w.heap.size := lt_of_block h.data
theorem Raw.ne (h : Raw w p g ds f n) : p ≠ g := by
  rintro rfl
  have hb := h.block
  rw [h.data] at hb
  simp at hb
theorem Raw.c0 (h : Raw w p g ds f n) : w.cell? ⟨p, 0, none⟩ = some (.slice (some ⟨g, 0, none⟩) ds.length ds.length) := by simp [World.cell?, h.block]
theorem Raw.c1 (h : Raw w p g ds f n) : w.cell? ⟨p, 1, none⟩ = some (.int .i64 f) := by simp [World.cell?, h.block]
theorem Raw.c2 (h : Raw w p g ds f n) : w.cell? ⟨p, 2, none⟩ = some (.int .i64 n) := by simp [World.cell?, h.block]
theorem Raw.fp (h : Raw w p g ds f n) (j : Nat) : w.frozen? ⟨p, j, none⟩ = false := by simp [World.frozen?, h.block]
theorem Raw.fg (h : Raw w p g ds f n) (j : Nat) : w.frozen? ⟨g, j, none⟩ = false := by simp [World.frozen?, h.data]
theorem Raw.cell (h : Raw w p g ds f n) (j : Nat) (hj : j < ds.length) : w.cell? ⟨g, j, none⟩ = some (.int .i32 (ds.getD j 0)) := by
  simp [World.cell?, h.data, hj, List.getD]
theorem Raw.keep (h : Raw w p g ds f n) (hp : w'.heap[p]? = w.heap[p]?) (hg : w'.heap[g]? = w.heap[g]?) : Raw w' p g ds f n := ⟨hp.trans h.block, hg.trans h.data⟩
theorem Raw.drewN (h : Raw w p g ds f n) (q : Nat) : Raw (w.drewN q) p g ds f n := ⟨h.block, h.data⟩
theorem Raw.setFrom (h : Raw w p g ds f n) (f' : Nat) : Raw (w.setCell ⟨p, 1, none⟩ (.int .i64 f')) p g ds f' n := by
  refine ⟨?_, (Below.heap_setCell _ _ _ _ (Ne.symm h.ne)).trans h.data⟩
  rw [heap_setCell_same w p 1 _ _ _ h.block]; rfl
theorem Raw.setMany (h : Raw w p g ds f n) (n' : Nat) (z : Int) (hz : z = n') : Raw (w.setCell ⟨p, 2, none⟩ (.int .i64 z)) p g ds f n' := by
  subst hz
  refine ⟨?_, (Below.heap_setCell _ _ _ _ (Ne.symm h.ne)).trans h.data⟩
  rw [heap_setCell_same w p 2 _ _ _ h.block]; rfl
theorem Raw.setItem (h : Raw w p g ds f n) (j : Nat) (x : Int) : Raw (w.setCell ⟨g, j, none⟩ (.int .i32 x)) p g (ds.set j x) f n := by
  refine ⟨?_, ?_⟩
  · rw [List.length_set]; exact (Below.heap_setCell _ _ _ _ h.ne).trans h.block
  · rw [heap_setCell_same w g j _ _ _ h.data]; simp [List.map_set]
end

section
variable {w : World} {p g : Nat} {ds : List Int} {f n : Nat}

set_option maxHeartbeats 1600000 in
theorem placeAny (h : Raw w p g ds f n) (hf : f < ds.length) (hl : ds.length ≤ 1000) (i : Nat) (hi : i ≤ ds.length) :
    Calls Try.prog 32 #[.pointer (some ⟨p, 0, none⟩), .int .i64 i] w fun e w' => e = .returned (.pointer (some ⟨g, pos ds.length f i, none⟩)) ∧ ∃ q, w' = w.drewN q := by
  have c0 := h.c0
  have c1 := h.c1
  have hm := pos_mod hf hi
  have hq := pos_lt hf hi
  clear h
  generalize ds.length = m at *
  have e1 : IntKind.i64.wrap ((f : Int) + (i : Int)) = ((f + i : Nat) : Int) := by rw [IntKind.wrap_i64]; omega
  have e2 : (((f + i : Nat) : Int)).tmod (m : Int) = ((pos m f i : Nat) : Int) := by
    rw [Int.tmod_eq_emod_of_nonneg (by omega), ← hm]; rfl
  clear hm
  generalize pos m f i = r at *
  generalize f + i = s at *
  have e3 : IntKind.i64.wrap (r : Int) = (r : Int) := by rw [IntKind.wrap_i64]; omega
  have n0 : ¬ m = 0 := by omega
  have q1 : (r : Int) < m := by omega
  go_enter Try.func32, Try.ntmps32
  go_wp2
  go_quiet (fail)
  go_wp2
  go_ret
  exact ⟨rfl, _, rfl⟩

theorem raw_turned (h : Raw w p g ds f n) (f' : Nat) : Raw (w.drew.setCell ⟨p, 1, none⟩ (.int .i64 f')) p g ds f' n ∧ Wrote (fun k => k = p) w (w.drew.setCell ⟨p, 1, none⟩ (.int .i64 f')) :=
  ⟨(h.drewN 1).setFrom f', (Wrote.refl (fun k => k = p) w).drew.setCell (.inr rfl) _⟩

set_option maxHeartbeats 1600000 in
theorem turnNext (h : Raw w p g ds f n) (hf : f < ds.length) (hl : ds.length ≤ 1000) :
    Calls Try.prog 33 #[.pointer (some ⟨p, 0, none⟩), .int .i64 1] w fun e w' => e = .returned (.tuple #[]) ∧ Raw w' p g ds (pos ds.length f 1) n ∧ Wrote (fun k => k = p) w w' := by
  have c0 := h.c0
  have c1 := h.c1
  have fr := h.fp 1
  have HT := Lib.hid (raw_turned h (pos ds.length f 1))
  have hm := turn_next hf
  have hq := pos_lt hf (show 1 ≤ ds.length by omega)
  clear h
  generalize pos ds.length f 1 = r at *
  generalize ds.length = m at *
  have e1 : IntKind.i64.wrap ((f : Int) + 1) = ((f + 1 : Nat) : Int) := by rw [IntKind.wrap_i64]; omega
  have e2 : IntKind.i64.wrap (((f + 1 : Nat) : Int) + (m : Int)) = ((f + 1 + m : Nat) : Int) := by rw [IntKind.wrap_i64]; omega
  have e3 : (((f + 1 + m : Nat) : Int)).tmod (m : Int) = (r : Int) := by
    rw [Int.tmod_eq_emod_of_nonneg (by omega), ← hm]; rfl
  clear hm
  generalize f + 1 + m = s2 at *
  generalize f + 1 = s at *
  have e4 : IntKind.i64.wrap (r : Int) = (r : Int) := by rw [IntKind.wrap_i64]; omega
  have n0 : ¬ m = 0 := by omega
  go_enter Try.func33, Try.ntmps33
  go_wp2
  go_still_tail 21, (by kernel_rfl)
  have c1' : w.drew.cell? ⟨p, 1, none⟩ = some (.int .i64 f) := c1
  have fr' : w.drew.frozen? ⟨p, 1, none⟩ = false := fr
  clear c0 c1 fr e1 e2 e3 e4
  change wpList _ _ _ _ _ w.drew
  generalize w.drew = w2 at *
  go_wp2
  go_end0
  exact ⟨rfl, HT.out⟩

set_option maxHeartbeats 1600000 in
theorem turnBack (h : Raw w p g ds f n) (hf : f < ds.length) (hl : ds.length ≤ 1000) :
    Calls Try.prog 33 #[.pointer (some ⟨p, 0, none⟩), .int .i64 (-1)] w fun e w' => e = .returned (.tuple #[]) ∧ Raw w' p g ds (ahead ds.length f) n ∧ Wrote (fun k => k = p) w w' := by
  have c0 := h.c0
  have c1 := h.c1
  have fr := h.fp 1
  have HT := Lib.hid (raw_turned h (ahead ds.length f))
  have hm := turn_ahead hf
  have hq := ahead_lt hf
  clear h
  generalize ahead ds.length f = r at *
  generalize ds.length = m at *
  obtain ⟨x, hx⟩ : ∃ x : Int, x = (f : Int) + -1 := ⟨_, rfl⟩
  have e1 : IntKind.i64.wrap ((f : Int) + -1) = x := by rw [IntKind.wrap_i64]; omega
  have e2 : IntKind.i64.wrap (x + (m : Int)) = ((f + m - 1 : Nat) : Int) := by rw [IntKind.wrap_i64]; omega
  have e3 : (((f + m - 1 : Nat) : Int)).tmod (m : Int) = (r : Int) := by
    rw [Int.tmod_eq_emod_of_nonneg (by omega), ← hm]; rfl
  clear hm hx
  generalize f + m - 1 = s2 at *
  have e4 : IntKind.i64.wrap (r : Int) = (r : Int) := by rw [IntKind.wrap_i64]; omega
  have n0 : ¬ m = 0 := by omega
  go_enter Try.func33, Try.ntmps33
  go_wp2
  go_still_tail 21, (by kernel_rfl)
  have c1' : w.drew.cell? ⟨p, 1, none⟩ = some (.int .i64 f) := c1
  have fr' : w.drew.frozen? ⟨p, 1, none⟩ = false := fr
  clear c0 c1 fr e1 e2 e3 e4
  change wpList _ _ _ _ _ w.drew
  generalize w.drew = w2 at *
  go_wp2
  go_end0
  exact ⟨rfl, HT.out⟩
end

/-- A deque whose blocks are all of F. -/
def Rng (w : World) (F : Nat → Prop) (p : Nat) (most : Int) (zs : List Int) : Prop :=
  ∃ g ds f, Raw w p g ds f zs.length ∧ Holds ds f zs ∧ most = ds.length ∧ ds.length ≤ 1000 ∧ F p ∧ F g ∧ ∀ k, F k → k < w.heap.size

/-- What a call on a deque leaves. -/
def Did (F : Nat → Prop) (p : Nat) (most : Int) (zs : List Int) (w w' : World) : Prop := ∃ F', Rng w' F' p most zs ∧ Wrote F w w' ∧ Later F F' w

theorem Wrote.mono {F G : Nat → Prop} {w w' : World} (h : Wrote F w w') (hFG : ∀ g, F g → G g) : Wrote G w w' := ⟨h.os, h.tape, h.output, h.size, fun k hk hn => h.block k hk (fun e => hn (hFG k e))⟩

section
variable {w w' : World} {F G : Nat → Prop} {p : Nat} {most : Int} {zs : List Int}
theorem Rng.len (h : Rng w F p most zs) : zs.length ≤ 1000 := by obtain ⟨g, ds, f, _, h2, _, h4, _⟩ := h; have := h2.room; omega
theorem Rng.s0 (h : Rng w F p most zs) : 0 ≤ most := by obtain ⟨g, ds, f, _, _, h3, _⟩ := h; omega
theorem Rng.s1 (h : Rng w F p most zs) : most ≤ 1000 := by obtain ⟨g, ds, f, _, _, h3, h4, _⟩ := h; omega
theorem Rng.room (h : Rng w F p most zs) : (zs.length : Int) ≤ most := by obtain ⟨g, ds, f, _, h2, h3, _⟩ := h; have := h2.room; omega
theorem Rng.foot (h : Rng w F p most zs) : ∀ g, F g → g < w.heap.size := by obtain ⟨g, ds, f, _, _, _, _, _, _, h7⟩ := h; exact h7
theorem Rng.lt (h : Rng w F p most zs) : p < w.heap.size := by obtain ⟨g, ds, f, h1, _⟩ := h; exact h1.lt
theorem Rng.in (h : Rng w F p most zs) : F p := by obtain ⟨g, ds, f, _, _, _, _, h5, _⟩ := h; exact h5
/-- New memory, and what others write, is none of a deque's. -/
theorem Rng.apart (h : Rng w F p most zs) (hw : Wrote G w w') (ha : Apart F G) : Rng w' F p most zs := by
  obtain ⟨g, ds, f, h1, h2, h3, h4, h5, h6, h7⟩ := h
  exact ⟨g, ds, f, h1.keep (hw.block _ h1.lt (ha p h5)) (hw.block _ h1.ltg (ha g h6)), h2, h3, h4, h5, h6, fun k hk => Nat.lt_of_lt_of_le (h7 k hk) hw.size⟩
theorem Rng.fresh (h : Rng w F p most zs) (hb : Below w.heap.size w w') : Rng w' F p most zs := h.apart (Wrote.of hb (fun _ => False)) (fun _ _ h => h)
theorem Rng.drew (h : Rng w F p most zs) : Rng w.drew F p most zs := h.fresh (Below.refl _ _).drew
theorem Rng.did (h : Rng w F p most zs) (hb : Below w.heap.size w w') : Did F p most zs w w' := ⟨F, h.fresh hb, Wrote.of hb F, Later.refl _ _⟩
theorem Did.trans {a b c : World} {zs' : List Int} (h : Wrote F a b) (hl : Later F G a) (d : Did G p most zs' b c) : Did F p most zs' a c := by
  obtain ⟨F', h1, h2, h3⟩ := d
  exact ⟨F', h1, h.step hl h2, hl.trans h3 h.size⟩
/-- A deque whose circle was written to. -/
theorem did_mk {g : Nat} {ds : List Int} {f : Nat} (h1 : Raw w' p g ds f zs.length) (h2 : Holds ds f zs) (h3 : most = ds.length) (h4 : ds.length ≤ 1000) (h5 : F p) (h6 : F g) (h7 : ∀ k, F k → k < w.heap.size) (hw : Wrote F w w') : Did F p most zs w w' :=
  ⟨F, ⟨g, ds, f, h1, h2, h3, h4, h5, h6, fun k hk => Nat.lt_of_lt_of_le (h7 k hk) hw.size⟩, hw, Later.refl _ _⟩
end

theorem infoI32 : (Try.prog.info? 21).map (fun i => (i.zero, i.size, i.bytes)) = some (some (.int .i32 0), 1, 4) := by kernel_rfl
theorem sizeI32 : (Try.prog.info? 21).map (·.size) = some 1 := by kernel_rfl

/-- How many there may be. -/
def mostOf (n : Int) : Int := if n < 0 then 0 else if 1000 < n then 1000 else n
theorem mostOf_in (n : Int) : 0 ≤ mostOf n ∧ mostOf n ≤ 1000 := by unfold mostOf; split <;> (try split) <;> omega
theorem mostOf_self (n : Int) (h0 : 0 ≤ n) (h1 : n ≤ 1000) : mostOf n = n := by unfold mostOf; rw [if_neg (by omega), if_neg (by omega)]

/-- The blocks that are new. -/
def New (w w' : World) : Nat → Prop := fun g => w.heap.size ≤ g ∧ g < w'.heap.size
theorem New.apart {w w' : World} {F : Nat → Prop} (hF : ∀ g, F g → g < w.heap.size) : Apart F (New w w') := fun g h1 h2 => by have := hF g h1; have := h2.1; omega

/-- What New and Copy leave: a deque in new memory. -/
def Copied (w : World) (most : Int) (zs : List Int) (e : Ending) (w' : World) : Prop :=
  ∃ q, e = .returned (.pointer (some ⟨q, 0, none⟩)) ∧ Rng w' (New w w') q most zs ∧ Below w.heap.size w w'

theorem newRng {w w1 : World} {g n : Nat} (hn : n ≤ 1000) (ho : w1.ownsRow w.heap.size 21 1 (.slice (some ⟨g, 0, none⟩) n n) n (madeCells (Value.int .i32 0).cells (n * 1)).toList) (hg : w.grownBy w1 none) :
    Copied w n [] (.returned (.pointer (some ⟨w1.heap.size, 0, none⟩))) (w1.alloc (.cells #[.slice (some ⟨g, 0, none⟩) n n, .int .i64 0, .int .i64 0] 57)) := by
  have hr := rowWhole ho
  rw [show (Value.int .i32 0).cells = #[Value.int .i32 0] from rfl, Nat.mul_one, toList_madeCells_one] at hr
  have hb : Below w.heap.size w w1 := (Below.refl _ _).grown hg (Nat.le_refl _) (by simp)
  have hlt := ho.lt g rfl
  refine ⟨_, rfl, ⟨g, List.replicate n 0, 0, ⟨?_, ?_⟩, Holds.none n, by simp, by simpa using hn, ⟨hb.size, by simp⟩, ⟨hlt.1, by simp; omega⟩, fun k hk => hk.2⟩, hb.alloc hb.size _⟩
  · simpa using heap_alloc_new w1 (.cells #[.slice (some ⟨g, 0, none⟩) n n, .int .i64 0, .int .i64 0] 57)
  · rw [Below.heap_alloc _ _ _ hlt.2, hr]; simp

set_option maxHeartbeats 1600000 in
theorem newAny (n : Int) (w : World) : Calls Try.prog 13 #[.int .i64 n] w (Copied w (mostOf n) []) := by
  obtain ⟨i0, hi, hz0, hz1, hz2⟩ := info_parts infoI32
  have HI := Lib.hid hi
  have H0 := Lib.hid hz0
  have H1 := Lib.hid hz1
  have H2 := Lib.hid hz2
  clear hi hz0 hz1 hz2
  rcases (show n < 0 ∨ 1000 < n ∨ (0 ≤ n ∧ n ≤ 1000) from by omega) with h | h | h
  · have HE := Lib.hid (show mostOf n = ((0 : Nat) : Int) by unfold mostOf; rw [if_pos h]; rfl)
    go_enter Try.func13, Try.ntmps13
    go_wp2_with (at_make; refine wpList_make_full _ rfl _ _ 36 rfl w.heap.size 21 i0 (.int .i32 0) 1 Try.underlying36 HI.out H0.out H1.out _ _ _ _ 0 rfl rfl (by simp) (by simp) (by rw [H2.out]; omega) (by unfold maxLen; omega) (Nat.le_refl _) ?_; intro w1 ho hg; have HO := Lib.hid ho; have HG := Lib.hid hg; clear ho hg)
    go_ret
    rw [HE.out]
    exact newRng (by omega) HO.out HG.out
  · have HE := Lib.hid (show mostOf n = ((1000 : Nat) : Int) by unfold mostOf; rw [if_neg (by omega), if_pos h]; rfl)
    have h2 : ¬ n < 0 := by omega
    go_enter Try.func13, Try.ntmps13
    go_wp2_with (at_make; refine wpList_make_full _ rfl _ _ 36 rfl w.heap.size 21 i0 (.int .i32 0) 1 Try.underlying36 HI.out H0.out H1.out _ _ _ _ 1000 rfl rfl (by simp) (by simp) (by rw [H2.out]; omega) (by unfold maxLen; omega) (Nat.le_refl _) ?_; intro w1 ho hg; have HO := Lib.hid ho; have HG := Lib.hid hg; clear ho hg)
    go_ret
    rw [HE.out]
    exact newRng (by omega) HO.out HG.out
  · have HE := Lib.hid (mostOf_self n h.1 h.2)
    obtain ⟨h0, h1⟩ := h
    obtain ⟨m, rfl⟩ := Int.eq_ofNat_of_zero_le h0
    go_enter Try.func13, Try.ntmps13
    go_wp2_with (at_make; refine wpList_make_full _ rfl _ _ 36 rfl w.heap.size 21 i0 (.int .i32 0) 1 Try.underlying36 HI.out H0.out H1.out _ _ _ _ m rfl rfl (by simp) (by simp) (by rw [H2.out]; omega) (by unfold maxLen; omega) (Nat.le_refl _) ?_; intro w1 ho hg; have HO := Lib.hid ho; have HG := Lib.hid hg; clear ho hg)
    all_goals
      go_ret
      rw [HE.out]
      exact newRng (by omega) HO.out HG.out

section
variable {w : World} {F : Nat → Prop} {p : Nat} {most : Int} {zs : List Int}

theorem lenAny (h : Rng w F p most zs) :
    Calls Try.prog 17 #[.pointer (some ⟨p, 0, none⟩)] w fun e w' => e = .returned (.int .i64 zs.length) ∧ w = w' := by
  obtain ⟨g, ds, f, m, _⟩ := h
  have c2 := m.c2
  clear m
  go_enter Try.func17, Try.ntmps17
  go_wp2
  go_ret
  exact ⟨rfl, rfl⟩

theorem lenNil (w : World) :
    Calls Try.prog 17 #[.pointer none] w fun e w' => e = .returned (.int .i64 0) ∧ w = w' := by
  go_enter Try.func17, Try.ntmps17
  go_wp2
  go_ret
  exact ⟨rfl, rfl⟩

theorem mostAny (h : Rng w F p most zs) :
    Calls Try.prog 23 #[.pointer (some ⟨p, 0, none⟩)] w fun e w' => e = .returned (.int .i64 most) ∧ w = w' := by
  obtain ⟨g, ds, f, m, _, rfl, _⟩ := h
  have c0 := m.c0
  clear m
  go_enter Try.func23, Try.ntmps23
  go_wp2
  go_ret
  exact ⟨rfl, rfl⟩

theorem mostNil (w : World) :
    Calls Try.prog 23 #[.pointer none] w fun e w' => e = .returned (.int .i64 0) ∧ w = w' := by
  go_enter Try.func23, Try.ntmps23
  go_wp2
  go_ret
  exact ⟨rfl, rfl⟩

theorem pushLFull (h : Rng w F p most zs) (x : Int) (hf : ¬ (zs.length : Int) < most) :
    Calls Try.prog 25 #[.pointer (some ⟨p, 0, none⟩), .int .i32 x] w fun e w' => e = .returned (.bool false) ∧ w = w' := by
  have L := lenAny h
  have M := mostAny h
  clear h
  go_enter Try.func25, Try.ntmps25
  go_wp2_with (first | (go_at_call 17; refine L.mono ?_; rintro e w' ⟨rfl, rfl⟩) | (go_at_call 23; refine M.mono ?_; rintro e w' ⟨rfl, rfl⟩))
  go_ret
  exact ⟨rfl, rfl⟩

theorem pushLNil (w : World) (x : Int) :
    Calls Try.prog 25 #[.pointer none, .int .i32 x] w fun e w' => e = .returned (.bool false) ∧ w = w' := by
  go_enter Try.func25, Try.ntmps25
  go_wp2_with (first | (go_at_call 17; refine (lenNil _).mono ?_; rintro e w' ⟨rfl, rfl⟩) | (go_at_call 23; refine (mostNil _).mono ?_; rintro e w' ⟨rfl, rfl⟩))
  go_ret
  exact ⟨rfl, rfl⟩

theorem pushRFull (h : Rng w F p most zs) (x : Int) (hf : ¬ (zs.length : Int) < most) :
    Calls Try.prog 19 #[.pointer (some ⟨p, 0, none⟩), .int .i32 x] w fun e w' => e = .returned (.bool false) ∧ w = w' := by
  have L := lenAny h
  have M := mostAny h
  clear h
  go_enter Try.func19, Try.ntmps19
  go_wp2_with (first | (go_at_call 17; refine L.mono ?_; rintro e w' ⟨rfl, rfl⟩) | (go_at_call 23; refine M.mono ?_; rintro e w' ⟨rfl, rfl⟩))
  go_ret
  exact ⟨rfl, rfl⟩

theorem pushRNil (w : World) (x : Int) :
    Calls Try.prog 19 #[.pointer none, .int .i32 x] w fun e w' => e = .returned (.bool false) ∧ w = w' := by
  go_enter Try.func19, Try.ntmps19
  go_wp2_with (first | (go_at_call 17; refine (lenNil _).mono ?_; rintro e w' ⟨rfl, rfl⟩) | (go_at_call 23; refine (mostNil _).mono ?_; rintro e w' ⟨rfl, rfl⟩))
  go_ret
  exact ⟨rfl, rfl⟩

theorem popLNone (h : Rng w F p most []) :
    Calls Try.prog 18 #[.pointer (some ⟨p, 0, none⟩)] w fun e w' => e = .returned (.tuple #[.int .i32 0, .bool false]) ∧ w = w' := by
  have L := lenAny h
  clear h
  go_enter Try.func18, Try.ntmps18
  go_wp2_with (go_at_call 17; refine L.mono ?_; rintro e w' ⟨rfl, rfl⟩)
  go_ret2
  exact ⟨rfl, rfl⟩

theorem popLNil (w : World) :
    Calls Try.prog 18 #[.pointer none] w fun e w' => e = .returned (.tuple #[.int .i32 0, .bool false]) ∧ w = w' := by
  go_enter Try.func18, Try.ntmps18
  go_wp2_with (go_at_call 17; refine (lenNil _).mono ?_; rintro e w' ⟨rfl, rfl⟩)
  go_ret2
  exact ⟨rfl, rfl⟩

theorem popRNone (h : Rng w F p most []) :
    Calls Try.prog 24 #[.pointer (some ⟨p, 0, none⟩)] w fun e w' => e = .returned (.tuple #[.int .i32 0, .bool false]) ∧ w = w' := by
  have L := lenAny h
  clear h
  go_enter Try.func24, Try.ntmps24
  go_wp2_with (go_at_call 17; refine L.mono ?_; rintro e w' ⟨rfl, rfl⟩)
  go_ret2
  exact ⟨rfl, rfl⟩

theorem popRNil (w : World) :
    Calls Try.prog 24 #[.pointer none] w fun e w' => e = .returned (.tuple #[.int .i32 0, .bool false]) ∧ w = w' := by
  go_enter Try.func24, Try.ntmps24
  go_wp2_with (go_at_call 17; refine (lenNil _).mono ?_; rintro e w' ⟨rfl, rfl⟩)
  go_ret2
  exact ⟨rfl, rfl⟩
end

end Go.Proofs.Ythjcfeljbmehmaa
