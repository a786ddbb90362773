/-
  What a stack of package stack is in the model's world, and what New, Len, Most, Push, Pop, Items and Copy do, at every stack and at nil. Conditions: a stack as Stk says. What Items, Copy and Do of package stack do, at every stack and at nil. Conditions: a stack as Stk says. What Do of package stack does, at every stack and at nil: what an operation is told, and what becomes of the items. Conditions: a stack as Stk says; a kind of 0 to 255.
-/
import Derived.Test.YtikaoikladbdpaaGreatG0816
import Derived.Laws.EntriesVeiled
namespace Go.Proofs.YtikaoikladbdpaaGreat.K9
open Go.RowKit

structure StkV (w : World) (p : Nat) (v : Value) (most : Int) (zs : List Int) : Prop where
  block : w.heap[p]? = some (.cells #[.int .i64 most, v] 158 (0, 0))
  own : w.ownsRow 0 21 1 v zs.length (zs.map (Value.int .i32))
  s0 : 0 ≤ most
  s1 : most ≤ 1000
  room : (zs.length : Int) ≤ most

def Stk (w : World) (F : Nat → Prop) (p : Nat) (most : Int) (zs : List Int) : Prop :=
  ∃ v, StkV w p v most zs ∧ F p ∧ (∀ g, v.ownBlock = some g → F g) ∧ ∀ g, F g → g < w.heap.size

def Did (F : Nat → Prop) (p : Nat) (most : Int) (zs : List Int) (w w' : World) : Prop := ∃ F', Stk w' F' p most zs ∧ Wrote F w w' ∧ Later F F' w

section
variable {w w' : World} {F G : Nat → Prop} {p : Nat} {v : Value} {most : Int} {zs : List Int}

theorem StkV.lt (h : StkV w p v most zs) : p < w.heap.size := lt_of_block h.block
theorem StkV.c0 (h : StkV w p v most zs) : w.cell? ⟨p, 0, none⟩ = some (.int .i64 most) := by simp [World.cell?, h.block]
theorem StkV.c1 (h : StkV w p v most zs) : w.cell? ⟨p, 1, none⟩ = some v := by simp [World.cell?, h.block]
theorem StkV.f (h : StkV w p v most zs) (j : Nat) : w.frozen? ⟨p, j, none⟩ = false := by simp [World.frozen?, h.block]
theorem StkV.ne (h : StkV w p v most zs) : v.ownBlock ≠ some p := by
  intro e
  rcases h.own.2 with ⟨rfl, _⟩ | ⟨g, cap, cur, rfl, _, hg, _⟩
  · simp [Value.ownBlock] at e
  · simp only [Value.ownBlock, Option.some.injEq] at e
    subst e
    have hb := h.block
    rw [hg] at hb
    simp at hb
theorem StkV.keep (h : StkV w p v most zs) (hp : w'.heap[p]? = w.heap[p]?) (hv : ∀ g, v.ownBlock = some g → w'.heap[g]? = w.heap[g]?) : StkV w' p v most zs :=
  ⟨hp.trans h.block, own_keep h.own hv, h.s0, h.s1, h.room⟩
theorem StkV.len (h : StkV w p v most zs) : zs.length ≤ 1000 := by have := h.s1; have := h.room; omega

theorem StkV.setList (h : StkV w p v most zs) {v' : Value} {zs' : List Int} (ho : w.ownsRow 0 21 1 v' zs'.length (zs'.map (Value.int .i32))) (hr : (zs'.length : Int) ≤ most) (hne : v'.ownBlock ≠ some p) :
    StkV (w.setCell ⟨p, 1, none⟩ v') p v' most zs' := by
  refine ⟨?_, ownsRow_setCell_other ho hne _, h.s0, h.s1, hr⟩
  rw [heap_setCell_same w p 1 _ _ _ h.block]
  rfl

theorem Stk.len (h : Stk w F p most zs) : zs.length ≤ 1000 := by obtain ⟨v, m, _⟩ := h; exact m.len
theorem Stk.s0 (h : Stk w F p most zs) : 0 ≤ most := by obtain ⟨v, m, _⟩ := h; exact m.s0
theorem Stk.s1 (h : Stk w F p most zs) : most ≤ 1000 := by obtain ⟨v, m, _⟩ := h; exact m.s1
theorem Stk.room (h : Stk w F p most zs) : (zs.length : Int) ≤ most := by obtain ⟨v, m, _⟩ := h; exact m.room
theorem Stk.foot (h : Stk w F p most zs) : ∀ g, F g → g < w.heap.size := by obtain ⟨v, _, _, _, h4⟩ := h; exact h4
theorem Stk.apart (h : Stk w F p most zs) (hw : Wrote G w w') (ha : Apart F G) : Stk w' F p most zs := by
  obtain ⟨v, m, h2, h3, h4⟩ := h
  exact ⟨v, m.keep (hw.block _ m.lt (ha p h2)) (fun g hg => hw.block _ (h4 g (h3 g hg)) (ha g (h3 g hg))), h2, h3, fun g hg => Nat.lt_of_lt_of_le (h4 g hg) hw.size⟩
theorem Stk.fresh (h : Stk w F p most zs) (hb : Below w.heap.size w w') : Stk w' F p most zs := h.apart (Wrote.of hb (fun _ => False)) (fun _ _ h => h)
theorem Stk.drew (h : Stk w F p most zs) : Stk w.drew F p most zs := h.fresh (Below.refl _ _).drew
theorem Stk.did (h : Stk w F p most zs) (hb : Below w.heap.size w w') : Did F p most zs w w' := ⟨F, h.fresh hb, Wrote.of hb F, Later.refl _ _⟩
end

theorem newStk (w : World) (m : Int) (h0 : 0 ≤ m) (h1 : m ≤ 1000) : Stk (w.alloc (.cells #[.int .i64 m, .slice none 0 0] 158)) (New w (w.alloc (.cells #[.int .i64 m, .slice none 0 0] 158))) w.heap.size m [] :=
  ⟨.slice none 0 0, ⟨heap_alloc_new w _, World.ownsRow_nil _ _ _ _, h0, h1, by simpa using h0⟩, ⟨Nat.le_refl _, by simp⟩, by simp [Value.ownBlock], fun g hg => hg.2⟩

set_option maxRecDepth 100000 in
set_option maxHeartbeats 1600000 in
theorem newAny (n : Int) (w : World) :
    Calls Tryz.prog 67 #[.int .i64 n] w fun e w' => e = .returned (.pointer (some ⟨w.heap.size, 0, none⟩)) ∧ Stk w' (New w w') w.heap.size (mostOf n) [] ∧ Below w.heap.size w w' := by
  rcases (show n < 0 ∨ 1000 < n ∨ (0 ≤ n ∧ n ≤ 1000) from by omega) with h | h | h
  · have HE := Lib.hid (show mostOf n = 0 by unfold mostOf; rw [if_pos h])
    go_enter Tryz.func67, Tryz.ntmps67
    go_wp2
    go_ret
    rw [HE.out]
    exact ⟨rfl, newStk w 0 (by omega) (by omega), (Below.refl _ _).alloc (Nat.le_refl _) _⟩
  · have HE := Lib.hid (show mostOf n = 1000 by unfold mostOf; rw [if_neg (by omega), if_pos h])
    have h2 : ¬ n < 0 := by omega
    go_enter Tryz.func67, Tryz.ntmps67
    go_wp2
    go_ret
    rw [HE.out]
    exact ⟨rfl, newStk w 1000 (by omega) (by omega), (Below.refl _ _).alloc (Nat.le_refl _) _⟩
  · have HE := Lib.hid (mostOf_self n h.1 h.2)
    obtain ⟨h0, h1⟩ := h
    go_enter Tryz.func67, Tryz.ntmps67
    go_wp2
    all_goals
      go_ret
      rw [HE.out]
      exact ⟨rfl, newStk w n (by omega) (by omega), (Below.refl _ _).alloc (Nat.le_refl _) _⟩

section
variable {w : World} {F : Nat → Prop} {p : Nat} {most : Int} {zs : List Int}

theorem lenAny (h : Stk w F p most zs) :
    Calls Tryz.prog 154 #[.pointer (some ⟨p, 0, none⟩)] w fun e w' => e = .returned (.int .i64 zs.length) ∧ w = w' := by
  obtain ⟨v, m, _⟩ := h
  have c1 := m.c1
  obtain ⟨ao, cap, rfl⟩ := ownShape m.own
  clear m
  go_enter Tryz.func154, Tryz.ntmps154
  go_wp2
  go_ret
  exact ⟨rfl, rfl⟩

theorem lenNil (w : World) :
    Calls Tryz.prog 154 #[.pointer none] w fun e w' => e = .returned (.int .i64 0) ∧ w = w' := by
  go_enter Tryz.func154, Tryz.ntmps154
  go_wp2
  go_ret
  exact ⟨rfl, rfl⟩

theorem mostAny (h : Stk w F p most zs) :
    Calls Tryz.prog 162 #[.pointer (some ⟨p, 0, none⟩)] w fun e w' => e = .returned (.int .i64 most) ∧ w = w' := by
  obtain ⟨v, m, _⟩ := h
  have c0 := m.c0
  clear m
  go_enter Tryz.func162, Tryz.ntmps162
  go_wp2
  go_ret
  exact ⟨rfl, rfl⟩

theorem mostNil (w : World) :
    Calls Tryz.prog 162 #[.pointer none] w fun e w' => e = .returned (.int .i64 0) ∧ w = w' := by
  go_enter Tryz.func162, Tryz.ntmps162
  go_wp2
  go_ret
  exact ⟨rfl, rfl⟩

theorem pushFull (h : Stk w F p most zs) (x : Int) (hf : ¬ (zs.length : Int) < most) :
    Calls Tryz.prog 168 #[.pointer (some ⟨p, 0, none⟩), .int .i32 x] w fun e w' => e = .returned (.bool false) ∧ w = w' := by
  have L := lenAny h
  have M := mostAny h
  clear h
  go_enter Tryz.func168, Tryz.ntmps168
  go_wp2_with (first | (go_at_call 154; refine L.mono ?_; rintro e w' ⟨rfl, rfl⟩) | (go_at_call 162; refine M.mono ?_; rintro e w' ⟨rfl, rfl⟩))
  go_ret
  exact ⟨rfl, rfl⟩

theorem pushed {v v' : Value} {w1 : World} {o : Obj} {x : Int} (m : StkV w p v most zs) (h2 : F p) (h3 : ∀ g, v.ownBlock = some g → F g) (h4 : ∀ g, F g → g < w.heap.size) (hf : (zs.length : Int) < most)
    (ho : w1.ownsRow 0 21 1 v' (zs.length + 1) (zs.map (Value.int .i32) ++ [.int .i32 x])) (hg : (w.alloc o).grownBy w1 v.ownBlock) (hl : ∀ g, v'.ownBlock = some g → v.ownBlock = some g ∨ (w.alloc o).heap.size ≤ g) :
    w1.cell? ⟨p, 1, none⟩ = some v ∧ w1.frozen? ⟨p, 1, none⟩ = false ∧ Did F p most (zs ++ [x]) w (w1.setCell ⟨p, 1, none⟩ v') := by
  have hp := m.lt
  have ep : w1.heap[p]? = w.heap[p]? := (hg.block p (by simp; omega) (fun e => m.ne e.symm)).trans (Below.heap_alloc _ _ _ hp)
  have hne : v'.ownBlock ≠ some p := fun e => by
    rcases hl p e with e' | e'
    · exact m.ne e'
    · simp at e'; omega
  refine ⟨(World.cell?_of_block (a := ⟨p, 1, none⟩) ep).trans m.c1, (World.frozen?_of_block (a := ⟨p, 1, none⟩) ep).trans (m.f 1), fun g => F g ∨ v'.ownBlock = some g, ⟨v', ⟨?_, ?_, m.s0, m.s1, by simp; omega⟩, .inl h2, fun g hg' => .inr hg', ?_⟩, ?_, ?_⟩
  · rw [heap_setCell_same w1 p 1 _ _ _ (ep.trans m.block)]; rfl
  · have := ownsRow_setCell_other (a := ⟨p, 1, none⟩) ho hne v'
    simpa using this
  · intro g hg'
    have hs : w.heap.size ≤ w1.heap.size := Nat.le_trans (by simp) hg.size
    rcases hg' with h | h
    · have := h4 g h
      simp [World.setCell]; omega
    · simpa [World.setCell] using (ho.lt g h).2
  · exact (((Wrote.refl F w).alloc o).grown hg (fun g e => .inl (h3 g e))).setCell (.inr h2) _
  · intro g hg'
    rcases hg' with h | h
    · exact .inl h
    · rcases hl g h with e | e
      · exact .inl (h3 g e)
      · exact .inr (by simp at e; omega)

set_option maxRecDepth 100000 in
set_option maxHeartbeats 1600000 in
theorem pushOk (h : Stk w F p most zs) (x : Int) (hf : (zs.length : Int) < most) :
    Calls Tryz.prog 168 #[.pointer (some ⟨p, 0, none⟩), .int .i32 x] w fun e w' => e = .returned (.bool true) ∧ Did F p most (zs ++ [x]) w w' := by
  have L := lenAny h
  have M := mostAny h
  have hz := h.len
  obtain ⟨v, m, h2, h3, h4⟩ := h
  have c1 := m.c1
  have HM := Lib.hid m
  have HA := Lib.hid (And.intro h2 (And.intro h3 h4))
  obtain ⟨ao, cap, rfl⟩ := ownShape m.own
  obtain ⟨i0, hi, hz0, hz1, hz2⟩ := info_parts infoI32
  clear m h2 h3 h4
  go_enter Tryz.func168, Tryz.ntmps168
  go_wp2_with (first | (go_at_call 154; refine L.mono ?_; rintro e w' ⟨rfl, rfl⟩) | (go_at_call 162; refine M.mono ?_; rintro e w' ⟨rfl, rfl⟩) | (at_builtin; refine wpList_append_later rfl _ _ 59 rfl 0 21 i0 _ 1 4 Tryz.underlying59 hi hz0 hz1 hz2 rfl (by decide) _ _ _ rfl (HM.out.own.alloc _) ⟨w.heap.size, 0, none⟩ 1 1 [.int .i32 x] rfl rfl (by intro j u hu; cases j <;> simp at hu; subst hu; go_simp) (by intro u hu; simp at hu; subst hu; rfl) (by simp only [maxLen]; omega) (by omega) (Nat.zero_le _) ?_; intro v' w1 o1 g1 l1; obtain ⟨q1, q2, q3⟩ := pushed HM.out HA.out.1 HA.out.2.1 HA.out.2.2 hf o1 g1 l1; obtain ⟨ao', cap', rfl⟩ := ownShape o1; have HQ := Lib.hid q3; clear q3 o1 g1 l1))
  go_ret
  exact ⟨rfl, HQ.out⟩

theorem popNone (h : Stk w F p most []) :
    Calls Tryz.prog 166 #[.pointer (some ⟨p, 0, none⟩)] w fun e w' => e = .returned (.tuple #[.int .i32 0, .bool false]) ∧ w = w' := by
  have L := lenAny h
  clear h
  go_enter Tryz.func166, Tryz.ntmps166
  go_wp2_with (go_at_call 154; refine L.mono ?_; rintro e w' ⟨rfl, rfl⟩)
  go_ret2
  exact ⟨rfl, rfl⟩

theorem popped {g cap k : Nat} {y : Int} (hk : k = zs.length) (m : StkV w p (.slice (some ⟨g, 0, none⟩) (k + 1) cap) most (zs ++ [y])) (h2 : F p) (h3 : F g) (h4 : ∀ g, F g → g < w.heap.size) :
    Did F p most zs w (w.setCell ⟨p, 1, none⟩ (.slice (some ⟨g, 0, none⟩) k cap)) := by
  subst hk
  have ho := m.own
  simp only [List.length_append, List.length_cons, List.length_nil, Nat.zero_add] at ho
  have hc := own_cut ho (Nat.le_succ zs.length)
  have hr := m.room
  refine ⟨F, ⟨_, m.setList (v' := .slice (some ⟨g, 0, none⟩) zs.length cap) ?_ (by simp at hr; omega) m.ne, h2, ?_, ?_⟩, (Wrote.refl F w).setCell (.inr h2) _, Later.refl _ _⟩
  · simpa [List.take_append] using hc
  · intro g' hg'
    simp only [Value.ownBlock, Option.some.injEq] at hg'
    subst hg'
    exact h3
  · simpa [World.setCell] using h4

set_option maxRecDepth 100000 in
set_option maxHeartbeats 1600000 in
theorem popOk (y : Int) (h : Stk w F p most (zs ++ [y])) :
    Calls Tryz.prog 166 #[.pointer (some ⟨p, 0, none⟩)] w fun e w' => e = .returned (.tuple #[.int .i32 y, .bool true]) ∧ Did F p most zs w w' := by
  have L := lenAny h
  have hz := h.len
  obtain ⟨v, m, h2, h3, h4⟩ := h
  obtain ⟨k, hk⟩ : ∃ k, k = zs.length := ⟨_, rfl⟩
  have hl : (zs ++ [y]).length = k + 1 := by simp [hk]
  rw [hl] at L hz
  have ho := m.own
  rw [hl] at ho
  rcases ho.2 with ⟨_, e⟩ | ⟨g, cap, cur, rfl, _, hg, hle, _⟩
  · omega
  · have c1 := m.c1
    have cy := ho.cellAt k (by omega)
    have hy : ((zs ++ [y]).map (Value.int .i32))[k]? = some (.int .i32 y) := by subst hk; simp
    rw [hy] at cy
    have f1 := m.f 1
    have HQ := Lib.hid (popped hk m h2 (h3 g rfl) h4)
    have e1 : IntKind.i64.wrap (((k + 1 : Nat) : Int) - 1) = (k : Int) := by rw [IntKind.wrap_i64]; omega
    clear m ho hg hl hy h2 h3 h4 hk
    go_enter Tryz.func166, Tryz.ntmps166
    go_wp2_with (go_at_call 154; refine L.mono ?_; rintro e w' ⟨rfl, rfl⟩)
    go_ret2
    exact ⟨rfl, HQ.out⟩
end

theorem madeFacts {w w1 : World} {g n : Nat} {ao : Option Addr} {Z : List Value} (ho : w1.ownsRow w.heap.size 21 1 (.slice (some ⟨g, 0, none⟩) n n) n (madeCells (Value.int .i32 0).cells (n * 1)).toList) (hg : w.grownBy w1 none)
    (hs : 0 < Z.length → ∃ ad, ao = some ad ∧ ∀ j u, Z[j]? = some u → w.cell? (ad.add j) = some u) :
    w1.heap[g]? = some (.cells (List.replicate n (.int .i32 0)).toArray 21 (0, 0)) ∧ (0 < Z.length → ∃ ad, ao = some ad ∧ ∀ j u, Z[j]? = some u → w1.cell? (ad.add j) = some u) ∧ Below w.heap.size w w1 := by
  refine ⟨?_, ?_, (Below.refl _ _).grown hg (Nat.le_refl _) (by simp)⟩
  · have := rowWhole ho
    rw [show (Value.int .i32 0).cells = #[Value.int .i32 0] from rfl, Nat.mul_one, toList_madeCells_one] at this
    exact this
  · intro hp
    obtain ⟨ad, rfl, hc⟩ := hs hp
    exact ⟨ad, rfl, fun j u hu => hg.cell (hc j u hu) (by simp)⟩

def Told (w : World) (zs : List Int) (e : Ending) (w' : World) : Prop :=
  e = .returned (.slice (some ⟨w.heap.size, 0, none⟩) zs.length zs.length) ∧ w'.ownsRow w.heap.size 21 1 (.slice (some ⟨w.heap.size, 0, none⟩) zs.length zs.length) zs.length (zs.map (Value.int .i32)) ∧ Below w.heap.size w w'

section
variable {w : World} {F : Nat → Prop} {p : Nat} {most : Int} {zs : List Int}

set_option maxRecDepth 100000 in
set_option maxHeartbeats 1600000 in
theorem itemsAny (h : Stk w F p most zs) :
    Calls Tryz.prog 153 #[.pointer (some ⟨p, 0, none⟩)] w (Told w zs) := by
  have hs' := h.len
  obtain ⟨v, m, _⟩ := h
  obtain ⟨ao, cap, hv, hr, hc1, _⟩ := reads_own m.own
  have hpl := m.lt
  have c1 := m.c1
  rw [hv] at c1
  obtain ⟨i0, hi, hz0, hz1, hz2⟩ := info_parts infoI32
  obtain ⟨Z, hZ⟩ : ∃ Z, Z = zs.map (Value.int .i32) := ⟨_, rfl⟩
  have hlen : Z.length = zs.length := by rw [hZ]; simp
  have hsrc : 0 < Z.length → ∃ ad, ao = some ad ∧ ∀ j u, Z[j]? = some u → w.cell? (ad.add j) = some u := by
    rw [hlen, hZ]; exact reads_src hr
  have h1c : ∀ u ∈ Z, u.oneCell' = true := by subst hZ; exact ints_oneCell _ _
  unfold Told
  rw [← hZ]
  have HI := Lib.hid hi
  have H0 := Lib.hid hz0
  have H1 := Lib.hid hz1
  have H2 := Lib.hid hz2
  have HL := Lib.hid hlen
  have HS := Lib.hid hsrc
  have HC := Lib.hid h1c
  clear hi hz0 hz1 hz2 hlen hsrc h1c hZ m hv hr
  go_enter Tryz.func153, Tryz.ntmps153
  go_wp2_with (first
    | (at_make; refine wpList_make_full _ rfl _ _ 59 rfl w.heap.size 21 i0 (.int .i32 0) 1 Tryz.underlying59 HI.out H0.out H1.out _ _ _ _ zs.length rfl rfl (by simp) (by simp) (by rw [H2.out]; omega) (by unfold maxLen; omega) (Nat.le_refl _) ?_; intro w1 ho hg; have c1' := hg.cell c1 (by simp); have HF := Lib.hid (madeFacts ho hg HS.out); clear ho hg)
    | (with_reducible refine wpList_copy_splice rfl (.tmp 12) (.tmp 16) 59 59 rfl 21 Tryz.underlying59 sizeI32 _ _ _ _ _ _ rfl rfl w.heap.size 0 (List.replicate zs.length (.int .i32 0)) 21 HF.out.1 Z (by rw [HL.out]; simp) (fun hp => ⟨rfl, HF.out.2.1 hp⟩) (by rw [HL.out]; simp) HC.out w.heap.size w HF.out.2.2 (Nat.le_refl _) ?_; intro w2 hg2 hb2))
  go_ret
  refine ⟨rfl, ?_, hb2⟩
  have hb := hg2.out
  refine rowOf (Nat.le_refl _) HL.out (by unfold maxLen; omega) ?_
  rw [hb]
  simp [splice, HL.out]

def Copied (w : World) (most : Int) (zs : List Int) (e : Ending) (w' : World) : Prop :=
  ∃ q, e = .returned (.pointer (some ⟨q, 0, none⟩)) ∧ Stk w' (New w w') q most zs ∧ Below w.heap.size w w'

def stkL (most : Int) (zs : List Int) (k x : Int) : List Int :=
  if k = 1 then (if (zs.length : Int) < most then zs ++ [x] else zs) else if k = 2 then zs.dropLast else zs
def stkC (most : Int) (zs : List Int) (k : Int) : Int :=
  if k = 1 then (if (zs.length : Int) < most then 1 else 3) else if k = 2 then (if zs = [] then 4 else 2) else 5
def stkV (zs : List Int) (k : Int) : Int := if k = 2 then zs.getLastD 0 else 0

theorem refuseAny (q : Option Addr) (x : Int) (w : World) :
    Calls Tryz.prog 169 #[.pointer q, .int .i32 x] w fun e w' => e = .returned (.agg #[.int .u8 5, .int .i32 0]) ∧ Below w.heap.size w w' := by
  go_enter Tryz.func169, Tryz.ntmps169
  go_wp2
  exact bodyPost_ret (v := .agg #[.int .u8 5, .int .i32 0]) (by simp [results, Tryz.results169, go_sem]) rfl ⟨rfl, by exact (Below.refl _ _).alloc (Nat.le_refl _) _⟩
end

end Go.Proofs.YtikaoikladbdpaaGreat.K9
namespace Go.Proofs.YtikaoikladbdpaaGreat.K9
open Go.RowKit

section
variable {w : World} {g : Nat} {c x : Int}
end

section
variable {w W w1 : World} {F : Nat → Prop} {p : Nat} {most : Int} {zs : List Int}

theorem Did.boxed (hF : ∀ g, F g → g < w.heap.size) (hb : Below w.heap.size w W) (d : Did F p most zs W w1) {g : Nat} (hg : w.heap.size ≤ g) (hl : g < W.heap.size) :
    w1.heap[g]? = W.heap[g]? ∧ ∀ a b, Did F p most zs w ((w1.setCell ⟨g, 0, none⟩ a).setCell ⟨g, 1, none⟩ b) := by
  obtain ⟨F', s, wr, l⟩ := d
  have hn : ¬ F g := fun e => by have := hF g e; omega
  have hn' : ¬ F' g := fun e => by
    rcases l g e with h | h
    · exact hn h
    · omega
  refine ⟨wr.block g hl hn, fun a b => ⟨F', ?_, ?_, ?_⟩⟩
  · exact s.apart (((Wrote.refl (fun k => k = g) w1).setCell (q := ⟨g, 0, none⟩) (.inr rfl) a).setCell (q := ⟨g, 1, none⟩) (.inr rfl) b) (fun k h1 h2 => hn' (by subst h2; exact h1))
  · exact (((Wrote.of hb F).trans wr).setCell (q := ⟨g, 0, none⟩) (.inl hg) a).setCell (q := ⟨g, 1, none⟩) (.inl hg) b
  · intro k hk
    rcases l k hk with h | h
    · exact .inl h
    · exact .inr (Nat.le_trans hb.size h)

theorem boxed1 (w : World) : ∀ W, w.alloc (.cells #[.int .u8 0, .int .i32 0] 74) = W → RBox W w.heap.size 0 0 ∧ Below w.heap.size w W := by
  rintro W rfl
  exact ⟨heap_alloc_new w _, (Below.refl _ _).alloc (Nat.le_refl _) _⟩

set_option maxRecDepth 100000 in
set_option maxHeartbeats 1600000 in
theorem doPushOk (h : Stk w F p most zs) (x : Int) (hf : (zs.length : Int) < most) :
    Calls Tryz.prog 170 #[.pointer (some ⟨p, 0, none⟩), .int .i32 x] w fun e w' => e = .returned (.agg #[.int .u8 1, .int .i32 0]) ∧ Did F p most (zs ++ [x]) w w' := by
  go_enter Tryz.func170, Tryz.ntmps170
  go_wp2_with fail
  generalize hW : w.alloc (.cells #[.int .u8 0, .int .i32 0] 74) = W
  obtain ⟨b0, hb⟩ := boxed1 w W hW
  clear hW
  have C := pushOk (h.fresh hb) x hf
  have HX := Lib.hid (fun w1 (d : Did F p most (zs ++ [x]) W w1) => d.boxed h.foot hb (Nat.le_refl _) b0.lt)
  clear h hb
  have HB := Lib.hid b0
  clear b0
  refine C.mono ?_
  clear C
  rintro e w1 ⟨rfl, d⟩
  obtain ⟨h1, h2⟩ := HX.out w1 d
  have b1 : RBox w1 w.heap.size 0 0 := h1.trans HB.out
  have c0 := b1.c0
  have c1 := b1.c1
  have f := b1.f
  have r := b1.set2 1 0
  have r0 := r.c0
  have r1 := r.c1
  have H2 := Lib.hid h2
  clear h1 h2 d b1 r HX
  go_wp2
  exact bodyPost_ret (v := .agg #[.int .u8 1, .int .i32 0]) (by simp [results, Tryz.results170, go_sem, r0, r1]) rfl ⟨rfl, H2.out _ _⟩

set_option maxRecDepth 100000 in
set_option maxHeartbeats 1600000 in
theorem doPushFull (h : Stk w F p most zs) (x : Int) (hf : ¬ (zs.length : Int) < most) :
    Calls Tryz.prog 170 #[.pointer (some ⟨p, 0, none⟩), .int .i32 x] w fun e w' => e = .returned (.agg #[.int .u8 3, .int .i32 0]) ∧ Did F p most zs w w' := by
  go_enter Tryz.func170, Tryz.ntmps170
  go_wp2_with fail
  generalize hW : w.alloc (.cells #[.int .u8 0, .int .i32 0] 74) = W
  obtain ⟨b0, hb⟩ := boxed1 w W hW
  clear hW
  have C := pushFull (h.fresh hb) x (by omega)
  have HX := Lib.hid (((h.fresh hb).did (Below.refl _ _)).boxed h.foot hb (Nat.le_refl _) b0.lt).2
  clear h hb
  refine C.mono ?_
  clear C
  rintro e w' ⟨rfl, rfl⟩
  have c0 := b0.c0
  have c1 := b0.c1
  have f := b0.f
  have r := b0.set2 3 0
  have r0 := r.c0
  have r1 := r.c1
  clear b0 r
  go_wp2
  exact bodyPost_ret (v := .agg #[.int .u8 3, .int .i32 0]) (by simp [results, Tryz.results170, go_sem, r0, r1]) rfl ⟨rfl, HX.out _ _⟩

set_option maxRecDepth 100000 in
set_option maxHeartbeats 1600000 in
theorem doPopOk (y : Int) (h : Stk w F p most (zs ++ [y])) (x : Int) :
    Calls Tryz.prog 171 #[.pointer (some ⟨p, 0, none⟩), .int .i32 x] w fun e w' => e = .returned (.agg #[.int .u8 2, .int .i32 y]) ∧ Did F p most zs w w' := by
  go_enter Tryz.func171, Tryz.ntmps171
  go_wp2_with fail
  generalize hW : w.alloc (.cells #[.int .u8 0, .int .i32 0] 74) = W
  obtain ⟨b0, hb⟩ := boxed1 w W hW
  clear hW
  have C := popOk y (h.fresh hb)
  have HX := Lib.hid (fun w1 (d : Did F p most zs W w1) => d.boxed h.foot hb (Nat.le_refl _) b0.lt)
  clear h hb
  have HB := Lib.hid b0
  clear b0
  refine C.mono ?_
  clear C
  rintro e w1 ⟨rfl, d⟩
  obtain ⟨h1, h2⟩ := HX.out w1 d
  have b1 : RBox w1 w.heap.size 0 0 := h1.trans HB.out
  have c0 := b1.c0
  have c1 := b1.c1
  have f := b1.f
  have r := b1.set2 2 y
  have r0 := r.c0
  have r1 := r.c1
  have H2 := Lib.hid h2
  clear h1 h2 d b1 r HX
  go_wp2
  exact bodyPost_ret (v := .agg #[.int .u8 2, .int .i32 y]) (by simp [results, Tryz.results171, go_sem, r0, r1]) rfl ⟨rfl, H2.out _ _⟩

set_option maxRecDepth 100000 in
set_option maxHeartbeats 1600000 in
theorem doPopNone (h : Stk w F p most []) (x : Int) :
    Calls Tryz.prog 171 #[.pointer (some ⟨p, 0, none⟩), .int .i32 x] w fun e w' => e = .returned (.agg #[.int .u8 4, .int .i32 0]) ∧ Did F p most [] w w' := by
  go_enter Tryz.func171, Tryz.ntmps171
  go_wp2_with fail
  generalize hW : w.alloc (.cells #[.int .u8 0, .int .i32 0] 74) = W
  obtain ⟨b0, hb⟩ := boxed1 w W hW
  clear hW
  have C := popNone (h.fresh hb)
  have HX := Lib.hid (((h.fresh hb).did (Below.refl _ _)).boxed h.foot hb (Nat.le_refl _) b0.lt).2
  clear h hb
  refine C.mono ?_
  clear C
  rintro e w' ⟨rfl, rfl⟩
  have c0 := b0.c0
  have c1 := b0.c1
  have f := b0.f
  have r := b0.set2 4 0
  have r0 := r.c0
  have r1 := r.c1
  clear b0 r
  go_wp2
  exact bodyPost_ret (v := .agg #[.int .u8 4, .int .i32 0]) (by simp [results, Tryz.results171, go_sem, r0, r1]) rfl ⟨rfl, HX.out _ _⟩

theorem begunDo (w : World) (k x : Int) : ∀ W, ((w.alloc (.cells #[.int .u8 k, .int .i32 x] 38)).alloc (.cells #[.int .u8 0, .int .i32 0] 74)).alloc (.cells #[.func (.func 169) #[] #[], .func (.func 170) #[] #[], .func (.func 171) #[] #[]] 233) = W →
    W.cell? ⟨w.heap.size, 0, none⟩ = some (.int .u8 k) ∧ W.cell? ⟨w.heap.size, 1, none⟩ = some (.int .i32 x) ∧ RBox W (w.heap.size + 1) 0 0 ∧ Below w.heap.size w W ∧
    W.cell? ⟨w.heap.size + 1 + 1, 0, none⟩ = some (.func (.func 169) #[] #[]) ∧ W.cell? ⟨w.heap.size + 1 + 1, 1, none⟩ = some (.func (.func 170) #[] #[]) ∧ W.cell? ⟨w.heap.size + 1 + 1, 2, none⟩ = some (.func (.func 171) #[] #[]) := by
  rintro W rfl
  refine ⟨?_, ?_, ?_, (((Below.refl _ _).alloc (Nat.le_refl _) _).alloc (by simp) _).alloc (by simp; omega) _, ?_, ?_, ?_⟩
  · go_simp
  · go_simp
  · unfold RBox
    rw [Below.heap_alloc _ _ _ (by simp)]
    have := heap_alloc_new (w.alloc (.cells #[.int .u8 k, .int .i32 x] 38)) (.cells #[.int .u8 0, .int .i32 0] 74)
    simpa using this
  · go_simp
  · go_simp
  · go_simp

end

end Go.Proofs.YtikaoikladbdpaaGreat.K9
