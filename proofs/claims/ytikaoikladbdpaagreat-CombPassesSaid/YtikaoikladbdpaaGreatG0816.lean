/-
  What Level and Items of package skip tell, at every list and at nil: the items of a level, in order, in new memory. Conditions: a list as Skip says. A block of another kind is none of a list's. Conditions: none. What slices.IsSorted tells of numbers, and what heightAt of package skip tells. Conditions: numbers that lie in memory. What Batch of package skip does: of values that rise as many as find room are put, each from where the one ahead of it stands. Conditions: a list as Skip says; numbers that lie in memory, in none of the list's blocks, a million at most. Lists in a walk: what is known of one, or of two that know nothing of one another, between the calls; the example that every statement asks ('known'); what reaperref04.Same tells of equal lists. Conditions: lists as At says. A coin in plain lists: which bits a feed puts, how high a height is, and what is left behind it. Conditions: none; no Go function is looked at here. A batch at a skip list with a coin, in plain lists: items and bits behind its operations, one behind the other; the same in one go. Conditions: none; no Go function is looked at here. A line of pushes that wait, in plain lists: what becomes of it by each operation, which push a pop meets, and codes. Conditions: none; no Go function is looked at here. Literals of operations, of results and of numbers. Conditions: none. What is told is the same. Conditions: lists of at most a thousand. Rows of numbers in blocks of one's own. Conditions: none. The base of stage 12's families. Conditions: none.
-/
import Derived.Test.YtikaoikladbdpaaGreatG0716
import Derived.Test.YtikaoikladbdpaaGreatG0116
import Derived.Test.YtikaoikladbdpaaGreatG0316
import Derived.Test.YtikaoikladbdpaaGreatG0516
import Derived.Test.YtikaoikladbdpaaGreatG0416
import Derived.Test.YtikaoikladbdpaaGreatProg
namespace Go.Proofs.YtikaoikladbdpaaGreat
open Go.RowKit Go.Shelf

attribute [local go_sem] Oper.semAt_some

def zsOf (ns : List Nd) (j : Nat) : List Int := (ns.filter fun n => decide (j < n.h)).map Nd.v

def lvlOf (l : List It) (k : Int) : List Int := (l.filter fun i => decide (1 ≤ k ∧ k ≤ (i.h : Int))).map It.v

theorem zsOf_length (ns : List Nd) (j : Nat) : (zsOf ns j).length = (lv ns j).length := by simp [zsOf, lv]
theorem zsOf_eq (ns : List Nd) (j : Nat) : lvlOf (itsOf ns) ((j : Int) + 1) = zsOf ns j := by
  unfold lvlOf zsOf itsOf
  rw [List.filter_map, List.map_map]
  have : (fun n : Nd => decide (1 ≤ (j : Int) + 1 ∧ (j : Int) + 1 ≤ (n.h : Int))) = fun n => decide (j < n.h) := by
    funext n
    congr 1
    exact propext ⟨fun h => by omega, fun h => by omega⟩
  simp only [Function.comp_def]
  rw [this]
theorem lvlOf_out {l : List It} {k : Int} (h : k < 1 ∨ 8 < k) (hs : ∀ i ∈ l, 1 ≤ i.h ∧ i.h ≤ 8) : lvlOf l k = [] := by
  unfold lvlOf
  rw [List.filter_eq_nil_iff.2 ?_]
  · rfl
  · intro i hi
    have := hs i hi
    simp
    omega

theorem lvAt {ns : List Nd} {j k : Nat} (h : k < (lv ns j).length) : ∃ n ∈ ns, n.b = (lv ns j).getD k 0 ∧ n.v = (zsOf ns j).getD k 0 := by
  have h2 : k < (ns.filter fun n => decide (j < n.h)).length := by simpa [lv] using h
  refine ⟨(ns.filter fun n => decide (j < n.h))[k], (List.mem_filter.1 (List.getElem_mem h2)).1, ?_, ?_⟩
  · simp [lv, List.getD, h2]
  · simp [zsOf, List.getD, h2]

def ToldL (w : World) (zs : List Int) (e : Ending) (w' : World) : Prop :=
  ∃ v, e = .returned v ∧ w'.ownsRow w.heap.size 21 1 v zs.length (zs.map (Value.int .i32)) ∧ Below w.heap.size w w'

def LvlInv (w : World) (bh q j : Nat) (zs : List Int) (k : Nat) (W : World) : Prop :=
  (∃ v, Boxed W w.heap.size 59 v ∧ W.ownsRow w.heap.size 21 1 v k ((zs.take k).map (Value.int .i32)) ∧ True) ∧ Boxed W bh 163 (.pointer (some ⟨q, 0, none⟩)) ∧ Boxed W (bh + 1) 3 (.int .i64 j) ∧ Below w.heap.size w W

theorem LvlInv.own {w : World} {bh q j : Nat} {zs : List Int} {n : Nat} (hn : w.heap.size ≤ n) : OwnFrom n (LvlInv w bh q j zs) :=
  OwnFrom.and (Own.from (holdsRow_own w.heap.size w.heap.size 59 21 1 (fun k => k) (fun k => (zs.take k).map (Value.int .i32)) (fun _ _ => True)) _)
    (OwnFrom.and (Own.from (boxed_own _ _ _) _) (OwnFrom.and (Own.from (boxed_own _ _ _) _) (ownFrom_below (Nat.le_refl _) hn)))

theorem lvlRound {w W w4 : World} {bh q j k : Nat} {zs : List Int} {y : Int} {tmp : Obj} {v v' : Value}
    (hv : Boxed W w.heap.size 59 v) (hrow : W.ownsRow w.heap.size 21 1 v k ((zs.take k).map (Value.int .i32))) (hbh : Boxed W bh 163 (.pointer (some ⟨q, 0, none⟩))) (hbj : Boxed W (bh + 1) 3 (.int .i64 j)) (hB : Below w.heap.size w W) (hne : w.heap.size < bh)
    (hown : w4.ownsRow w.heap.size 21 1 v' (k + 1) ((zs.take k).map (Value.int .i32) ++ [.int .i32 y])) (hg : (W.alloc tmp).grownBy w4 v.ownBlock) (hk : k < zs.length) (hy : y = zs.getD k 0) :
    Boxed w4 w.heap.size 59 v ∧ KeepsOthers W (w4.setCell ⟨w.heap.size, 0, none⟩ v') ∧ LvlInv w bh q j zs (k + 1) (w4.setCell ⟨w.heap.size, 0, none⟩ v') := by
  obtain ⟨a1, a2, a3, a4, a5⟩ := hv.appended (by decide) hrow hB.size (Nat.le_refl _) hown hg
  have e1 : Boxed w4 bh 163 (.pointer (some ⟨q, 0, none⟩)) := (hbh.alloc tmp).kept hg (hbh.not_row (by decide) hrow)
  have e2 : Boxed w4 (bh + 1) 3 (.int .i64 j) := (hbj.alloc tmp).kept hg (hbj.not_row (by decide) hrow)
  refine ⟨a1, a4, ⟨v', a2, ?_, trivial⟩, e1.other (by omega) _, e2.other (by omega) _, hB.trans a5⟩
  have ht : (zs.take (k + 1)).map (Value.int .i32) = (zs.take k).map (Value.int .i32) ++ [.int .i32 y] := by
    rw [List.take_succ_eq_append_getElem hk, List.map_append, hy]
    simp [List.getD, hk]
  rw [ht]
  exact a3

theorem levelBoxes (w : World) (p j : Nat) :
    Boxed (((w.alloc (.cells #[.slice none 0 0] 59)).alloc (.cells #[.pointer (some ⟨p, 0, none⟩)] 163)).alloc (.cells #[.int .i64 j] 3)) w.heap.size 59 (.slice none 0 0) ∧ Boxed (((w.alloc (.cells #[.slice none 0 0] 59)).alloc (.cells #[.pointer (some ⟨p, 0, none⟩)] 163)).alloc (.cells #[.int .i64 j] 3)) (w.heap.size + 1) 163 (.pointer (some ⟨p, 0, none⟩)) ∧ Boxed (((w.alloc (.cells #[.slice none 0 0] 59)).alloc (.cells #[.pointer (some ⟨p, 0, none⟩)] 163)).alloc (.cells #[.int .i64 j] 3)) (w.heap.size + 1 + 1) 3 (.int .i64 j) ∧ Below w.heap.size w (((w.alloc (.cells #[.slice none 0 0] 59)).alloc (.cells #[.pointer (some ⟨p, 0, none⟩)] 163)).alloc (.cells #[.int .i64 j] 3)) := by
  have b0 := ((Boxed.new w 59 (.slice none 0 0)).alloc (.cells #[.pointer (some ⟨p, 0, none⟩)] 163)).alloc (.cells #[.int .i64 j] 3)
  have b1 := (Boxed.new (w.alloc (.cells #[.slice none 0 0] 59)) 163 (.pointer (some ⟨p, 0, none⟩))).alloc (.cells #[.int .i64 j] 3)
  have b2 := Boxed.new ((w.alloc (.cells #[.slice none 0 0] 59)).alloc (.cells #[.pointer (some ⟨p, 0, none⟩)] 163)) 3 (.int .i64 j)
  rw [World.size_alloc] at b1
  rw [World.size_alloc, World.size_alloc] at b2
  exact ⟨b0, b1, b2, (((Below.refl _ w).alloc (Nat.le_refl _) _).alloc (by simp) _).alloc (by simp; omega) _⟩

theorem lvlStart {w W : World} {p j : Nat} (h : Boxed W w.heap.size 59 (.slice none 0 0) ∧ Boxed W (w.heap.size + 1) 163 (.pointer (some ⟨p, 0, none⟩)) ∧ Boxed W (w.heap.size + 1 + 1) 3 (.int .i64 j) ∧ Below w.heap.size w W) (zs : List Int) : LvlInv w (w.heap.size + 1) p j zs 0 W :=
  ⟨⟨_, h.1, by simpa using World.ownsRow_nil W w.heap.size 21 1, trivial⟩, h.2.1, h.2.2.1, h.2.2.2⟩

section
variable {w : World} {F : Nat → Prop} {p : Nat} {most : Int} {l : List It}

theorem levelOut (p : Nat) (w : World) (k : Int) (h : k < 1 ∨ 8 < k) :
    Calls Tryz.prog 207 #[.pointer (some ⟨p, 0, none⟩), .int .i64 k] w fun e w' => e = .returned (.slice none 0 0) ∧ w = w' := by
  rcases h with h | h
  · refine (callsIn_wide (n := 3)).1 ?_
    refine callsIn_of_wp_marks Tryz.func207 rfl trivial ?_ rfl
    simp only [Tryz.ntmps207, List.size_toArray, List.length_cons, List.length_nil, Nat.reduceAdd, Nat.reduceSub, Array.replicate_succ, Array.replicate_zero, List.push_toArray, List.append_toArray, List.nil_append, List.cons_append]
    gi_wp2
    exact ⟨_, results_tmp rfl _ _ _, rfl, rfl⟩
  · have h1 : ¬ k < 1 := by omega
    refine (callsIn_wide (n := 3)).1 ?_
    refine callsIn_of_wp_marks Tryz.func207 rfl trivial ?_ rfl
    simp only [Tryz.ntmps207, List.size_toArray, List.length_cons, List.length_nil, Nat.reduceAdd, Nat.reduceSub, Array.replicate_succ, Array.replicate_zero, List.push_toArray, List.append_toArray, List.nil_append, List.cons_append]
    gi_wp2
    exact ⟨_, results_tmp rfl _ _ _, rfl, rfl⟩

set_option maxRecDepth 100000 in
set_option maxHeartbeats 4000000 in
theorem levelIn (h : Skip w F p most l) (j : Nat) (hj : j < 8) :
    Calls Tryz.prog 207 #[.pointer (some ⟨p, 0, none⟩), .int .i64 ((j : Int) + 1)] w (ToldL w (lvlOf l ((j : Int) + 1))) := by
  obtain ⟨ns, m, rfl, _⟩ := h
  rw [zsOf_eq]
  have hzl := zsOf_length ns j
  have HM := Lib.hid m
  obtain ⟨i0, hi, hz0, hz1, hz2⟩ := info_parts infoI32
  have hn : (lv ns j).length ≤ 1000 := by
    have h1 := (lv_sub ns j).length_le
    have h2 := m.len
    have h3 := m.mo
    simp [blks] at h1
    omega
  have j1 : ¬ (j : Int) + 1 < 1 := by omega
  have j8 : ¬ 8 < (j : Int) + 1 := by omega
  have je : (j : Int) + 1 - 1 = j := by omega
  have hmx : Tryz.prog.follows .mixedOrders = true := by kernel_rfl
  clear m
  refine (callsIn_wide (n := 3)).1 ?_
  refine callsIn_of_wp_marks Tryz.func207 rfl trivial ?_ rfl
  simp only [Tryz.ntmps207, List.size_toArray, List.length_cons, List.length_nil, Nat.reduceAdd, Nat.reduceSub, Array.replicate_succ, Array.replicate_zero, List.push_toArray, List.append_toArray, List.nil_append, List.cons_append]
  gi_wp2_with (refine ⟨trivial, ?_⟩; gi_at_call 208; refine (callsIn_wide.2 (behindAny _ _ _)).mono ?_; rintro e w2 ⟨rfl, rfl⟩)
  have HW1 := Lib.hid (levelBoxes w p j)
  generalize (((w.alloc (.cells #[.slice none 0 0] 59)).alloc (.cells #[.pointer (some ⟨p, 0, none⟩)] 163)).alloc (.cells #[.int .i64 j] 3)) = W1 at *
  have hsz : w.heap.size ≤ W1.heap.size := HW1.out.2.2.2.size
  refine wpIn_rangeStops rfl (by omega) (gf := 209) (lb := #[.pointer (some ⟨w.heap.size + 1, 0, none⟩), .pointer (some ⟨w.heap.size + 1 + 1, 0, none⟩)]) rfl trivial (enters_of Tryz.func209 (by kernel_rfl) rfl) (towV (lv ns j)) (fun _ => rfl) (lv ns j).length 0
    (LvlInv w (w.heap.size + 1) p j (zsOf ns j)) (fun _ _ => False)
    (behindSeq (3 - 1) hj (List.nodup_cons.1 (Nodup.level HM.out.bod.nd j)).2 _ (fun k W h => ⟨h.2.1.cell, h.2.2.1.cell, (HM.out.bod.below h.2.2.2).ch j hj⟩)) (LvlInv.own hsz) (fun _ _ _ _ h _ _ => h) (lvlStart HW1.out _)
    (fun k => { tmps := #[.pointer (some ⟨p, 0, none⟩), .int .i64 ((j : Int) + 1), undef, undef, .slice none 0 0, .pointer (some ⟨w.heap.size, 0, none⟩), .pointer (some ⟨(lv ns j).getD k 0, 0, none⟩), .pointer (some ⟨p, 0, none⟩), .bool false, .bool false, .int .i64 ((j : Int) + 1), .bool false, .bool false, .bool false, .int .i64 ((j : Int) + 1), .bool false, .bool false, .pointer (some ⟨p, 0, none⟩), .pointer (some ⟨p, 0, none⟩), .pointer (some ⟨p, 0, none⟩), .int .i64 ((j : Int) + 1), .int .i64 j, .func (.func 209) #[] #[.pointer (some ⟨w.heap.size + 1, 0, none⟩), .pointer (some ⟨w.heap.size + 1 + 1, 0, none⟩)], .pointer (some ⟨(lv ns j).getD k 0, 0, none⟩), undef, undef, undef, undef, undef, undef, undef, undef], defers := [] }) ?assign ?body ?done ?stop
  case assign =>
    intro l k W K hK
    simp only [towV]
    gi_wp2
    exact hK
  case body =>
    rintro l k W ⟨⟨v, hv, hrow, _⟩, hbh, hbj, hB⟩ hlt
    obtain ⟨ao, cap, rfl⟩ := ownShape hrow
    obtain ⟨n, hn1, hnb, hnv⟩ := lvAt hlt
    have cx := ((HM.out.bod.below hB).tow n hn1).c0
    have hxl : n.b < w.heap.size := HM.out.bod.lt n.b (List.mem_cons_of_mem _ (List.mem_map_of_mem hn1))
    rw [hnb] at cx hxl
    have HXlt := Lib.hid (show (lv ns j).getD k 0 ≠ w.heap.size by omega)
    have HXo := Lib.hid hxl
    have HYv := Lib.hid hnv
    have HZ := Lib.hid (show k < (zsOf ns j).length by rw [hzl]; exact hlt)
    have HM1 := Lib.hid (show k + 1 ≤ maxLen by simp only [maxLen]; omega)
    have HM2 := Lib.hid (show (k + 1) * 4 ≤ 140737488355328 by omega)
    have HV := Lib.hid hv
    have HRow := Lib.hid hrow
    have HBh := Lib.hid hbh
    have HBj := Lib.hid hbj
    have HB := Lib.hid hB
    have cl := hv.cell
    have fl := hv.frozen
    have cla := (hv.alloc (.cells #[.int .i32 n.v] 21)).cell
    generalize (lv ns j).getD k 0 = x at *
    generalize n.v = y at *
    have cxa : (W.drew.alloc (.cells #[.int .i32 y] 21)).cell? ⟨x, 0, none⟩ = some (.int .i32 y) := by rw [World.cell?_alloc_lt _ _ _ (show x < W.drew.heap.size from Nat.lt_of_lt_of_le hxl hB.size)]; exact cx
    have HX4 : Hid (∀ (w4 : World) (v' : Value), (Boxed w4 w.heap.size 59 (.slice ao k cap) ∧ KeepsOthers W (w4.setCell ⟨w.heap.size, 0, none⟩ v') ∧ LvlInv w (w.heap.size + 1) p j (zsOf ns j) (k + 1) (w4.setCell ⟨w.heap.size, 0, none⟩ v')) → w4.cell? ⟨x, 0, none⟩ = some (.int .i32 y)) := Lib.hid fun w4 v' h => by
      have h1 := (h.2.2.2.2.2.cell (p := ⟨x, 0, none⟩) HXo.out).trans ((hB.cell (p := ⟨x, 0, none⟩) HXo.out).symm.trans cx)
      rwa [World.cell?_of_block (a := ⟨x, 0, none⟩) (Below.heap_setCell _ _ _ _ HXlt.out)] at h1
    clear hv hrow hbh hbj hB hlt hn1 hnb hnv hxl hn j1 j8
    gi_wp2
    refine wpIn_region_round (S := fun w' => w'.cell? ⟨x, 0, none⟩ = some (.int .i32 y)) hmx (fun ⟨_, _, h⟩ => h) (by rfl) cx (fun hS => ?_)
    refine wpAnyH_take (i := 1) (v := ?_) rfl (by kernel_rfl) (by kernel_rfl) (by kernel_rfl) (fun _ _ _ h => h) (Or.inl ⟨by rfl, ?_⟩) hS ?_
    rotate_left
    · intro w hSw
      try dsimp only at hSw
      go_simp
      try with_reducible rfl
    try simp only [Act.put, List.setIfInBounds_toArray, List.set_cons_zero, List.set_cons_succ]
    refine wpAnyH_take (i := 2) (v := ?_) rfl (by kernel_rfl) (by kernel_rfl) (by kernel_rfl) (fun _ _ _ h => h) (Or.inl ⟨by rfl, ?_⟩) hS ?_
    rotate_left
    · intro w hSw
      try dsimp only at hSw
      go_simp
      try with_reducible rfl
    try simp only [Act.put, List.setIfInBounds_toArray, List.set_cons_zero, List.set_cons_succ]
    refine wpAnyH_take (i := 3) (v := ?_) rfl (by kernel_rfl) (by kernel_rfl) (by kernel_rfl) (fun _ _ _ h => h) (Or.inl ⟨by rfl, ?_⟩) hS ?_
    rotate_left
    · intro w hSw
      try dsimp only at hSw
      go_simp
      try with_reducible rfl
    try simp only [Act.put, List.setIfInBounds_toArray, List.set_cons_zero, List.set_cons_succ]
    refine wpAnyH_take (i := 4) (v := ?_) rfl (by kernel_rfl) (by kernel_rfl) (by kernel_rfl) (fun _ _ _ h => h) (Or.inl ⟨by rfl, ?_⟩) hS ?_
    rotate_left
    · intro w hSw
      try dsimp only at hSw
      go_simp
      try with_reducible rfl
    try simp only [Act.put, List.setIfInBounds_toArray, List.set_cons_zero, List.set_cons_succ]
    refine wpAnyH_ready (rs := [0, 5]) (by kernel_rfl) (by simp) ?_
    refine AllReadyH.cons rfl (fun K hK => ?_) ?_
    · go_simp
      refine hK.out _ _ (by first | exact cx | exact cxa) (fun hS => ?_)
      clear hK K
      refine wpAnyH_ready (rs := [5]) (by kernel_rfl) (by simp) ?_
      refine AllReadyH.cons rfl (fun K hK => ?_) ?_
      · go_simp
        refine hK.out _ _ (by first | exact cx | exact cxa) (fun hS => ?_)
        clear hK K
        refine wpAnyH_ready (rs := [6]) (by kernel_rfl) (by simp) ?_
        refine AllReadyH.cons rfl (fun K hK => ?_) ?_
        · refine step_append_own _ rfl _ _ 59 rfl w.heap.size 21 i0 _ 1 4 Tryz.underlying59 hi hz0 hz1 hz2 rfl (by decide) (.slice ao k cap) k _ rfl (HRow.out.alloc _) ⟨W.heap.size, 0, none⟩ 1 1 [.int .i32 y] rfl rfl (by intro j u hu; cases j <;> simp at hu; subst hu; go_simp) (by intro u hu; simp at hu; subst hu; rfl) HM1.out HM2.out (Nat.le_trans HB.out.size (by simp)) ?_
          intro v' w4 hown' hgrow
          obtain ⟨g', cap', rfl⟩ := ownsRow_succ hown'
          have HA := Lib.hid (lvlRound HV.out HRow.out HBh.out HBj.out HB.out (Nat.lt_succ_self _) hown' (tmp := .cells #[.int .i32 y] 21) ⟨hgrow.os, hgrow.tape, hgrow.output, hgrow.size, hgrow.block⟩ HZ.out HYv.out)
          have k4 := HA.out.1.cell
          have f4 := HA.out.1.frozen
          have cx4 : w4.cell? ⟨x, 0, none⟩ = some (.int .i32 y) := HX4.out _ _ HA.out
          have cx5 : (w4.setCell ⟨w.heap.size, 0, none⟩ (.slice (some ⟨g', 0, none⟩) (k + 1) cap')).cell? ⟨x, 0, none⟩ = some (.int .i32 y) := (World.cell?_of_block (Below.heap_setCell _ _ _ _ HXlt.out)).trans cx4
          refine hK.out _ _ cx4 (fun hS => ?_)
          clear hK K
          refine wpAnyH_ready (rs := [7]) (by kernel_rfl) (by simp) ?_
          refine AllReadyH.cons rfl (fun K hK => ?_) ?_
          · go_simp
            refine hK.out _ _ cx5 (fun hS => ?_)
            clear hK K
            refine wpAnyH_done (by kernel_rfl) ?_ _
            gi_wp2
            exact ⟨HA.out.2.1.from _, HA.out.2.2⟩
          exact AllReadyH.nil
        exact AllReadyH.nil
      exact AllReadyH.nil
    refine AllReadyH.cons rfl (fun K hK => ?_) ?_
    · go_simp
      refine hK.out _ _ (by first | exact cx | exact cxa) (fun hS => ?_)
      clear hK K
      refine wpAnyH_ready (rs := [0]) (by kernel_rfl) (by simp) ?_
      refine AllReadyH.cons rfl (fun K hK => ?_) ?_
      · go_simp
        refine hK.out _ _ (by first | exact cx | exact cxa) (fun hS => ?_)
        clear hK K
        refine wpAnyH_ready (rs := [6]) (by kernel_rfl) (by simp) ?_
        refine AllReadyH.cons rfl (fun K hK => ?_) ?_
        · refine step_append_own _ rfl _ _ 59 rfl w.heap.size 21 i0 _ 1 4 Tryz.underlying59 hi hz0 hz1 hz2 rfl (by decide) (.slice ao k cap) k _ rfl (HRow.out.alloc _) ⟨W.heap.size, 0, none⟩ 1 1 [.int .i32 y] rfl rfl (by intro j u hu; cases j <;> simp at hu; subst hu; go_simp) (by intro u hu; simp at hu; subst hu; rfl) HM1.out HM2.out (Nat.le_trans HB.out.size (by simp)) ?_
          intro v' w4 hown' hgrow
          obtain ⟨g', cap', rfl⟩ := ownsRow_succ hown'
          have HA := Lib.hid (lvlRound HV.out HRow.out HBh.out HBj.out HB.out (Nat.lt_succ_self _) hown' (tmp := .cells #[.int .i32 y] 21) ⟨hgrow.os, hgrow.tape, hgrow.output, hgrow.size, hgrow.block⟩ HZ.out HYv.out)
          have k4 := HA.out.1.cell
          have f4 := HA.out.1.frozen
          have cx4 : w4.cell? ⟨x, 0, none⟩ = some (.int .i32 y) := HX4.out _ _ HA.out
          have cx5 : (w4.setCell ⟨w.heap.size, 0, none⟩ (.slice (some ⟨g', 0, none⟩) (k + 1) cap')).cell? ⟨x, 0, none⟩ = some (.int .i32 y) := (World.cell?_of_block (Below.heap_setCell _ _ _ _ HXlt.out)).trans cx4
          refine hK.out _ _ cx4 (fun hS => ?_)
          clear hK K
          refine wpAnyH_ready (rs := [7]) (by kernel_rfl) (by simp) ?_
          refine AllReadyH.cons rfl (fun K hK => ?_) ?_
          · go_simp
            refine hK.out _ _ cx5 (fun hS => ?_)
            clear hK K
            refine wpAnyH_done (by kernel_rfl) ?_ _
            gi_wp2
            exact ⟨HA.out.2.1.from _, HA.out.2.2⟩
          exact AllReadyH.nil
        exact AllReadyH.nil
      exact AllReadyH.nil
    exact AllReadyH.nil
  case done =>
    rintro D W hD ⟨⟨v, hv, hrow, _⟩, hbh, hbj, hB⟩ hK
    obtain ⟨ao, cap, rfl⟩ := ownShape hrow
    have cl := hv.cell
    have HRow := Lib.hid hrow
    have HB := Lib.hid hB
    have HD := Lib.hid (Nat.le_trans hsz hD)
    clear hv hrow hbh hbj hB hD
    gi_wp2
    refine ⟨by simp, .inl ⟨_, _, rfl, run_takeDeferred hK, ?_⟩⟩
    refine ⟨_, results_tmp rfl _ _ _, _, rfl, ?_, HB.out.trans (Turned.put HD.out hK).below⟩
    have h1 := HRow.out
    rw [List.take_of_length_le (Nat.le_of_eq hzl)] at h1
    rw [hzl]
    exact ownsRow_putObj h1 _ hK rfl
  case stop =>
    rintro D k W _ _ h _
    exact h.elim

theorem levelAny (h : Skip w F p most l) (k : Int) :
    Calls Tryz.prog 207 #[.pointer (some ⟨p, 0, none⟩), .int .i64 k] w (ToldL w (lvlOf l k)) := by
  by_cases hk : k < 1 ∨ 8 < k
  · rw [lvlOf_out hk h.hs]
    exact (levelOut p w k hk).mono fun e w' ⟨he, hw⟩ => by
      subst hw
      exact ⟨_, he, by simpa using World.ownsRow_nil w w.heap.size 21 1, Below.refl _ _⟩
  · have := levelIn h (k - 1).toNat (by omega)
    rwa [show (((k - 1).toNat : Nat) : Int) + 1 = k by omega] at this

theorem lvlOf_one (hs : ∀ i ∈ l, 1 ≤ i.h ∧ i.h ≤ 8) : lvlOf l 1 = l.map It.v := by
  unfold lvlOf
  rw [List.filter_eq_self.2]
  intro i hi
  have := hs i hi
  simp
  omega

theorem itemsAny (h : Skip w F p most l) :
    Calls Tryz.prog 205 #[.pointer (some ⟨p, 0, none⟩)] w (ToldL w (l.map It.v)) := by
  have C := levelAny h 1
  rw [lvlOf_one h.hs] at C
  clear h
  go_enter Tryz.func205, Tryz.ntmps205
  go_wp2_with fail
  refine C.mono ?_
  clear C
  intro e w2 ht
  have HT := Lib.hid ht
  obtain ⟨v, he, hrow, _⟩ := ht
  obtain ⟨ao, cap, rfl⟩ := ownShape hrow
  subst he
  clear hrow
  generalize (l.map It.v).length = nn at *
  go_wp2
  go_ret
  exact HT.out

end

end Go.Proofs.YtikaoikladbdpaaGreat
namespace Go.Proofs.YtikaoikladbdpaaGreat
open Go.RowKit Go.Lib

theorem Bod.notIn {W : World} {p : Nat} {many most : Int} {ns : List Nd} (h : Bod W p many most ns) {b : Nat} {cs : Array Value} {t : TypeId} {f : Nat × Nat} (hb : W.heap[b]? = some (.cells cs t f)) (h1 : t ≠ 168) (h2 : t ≠ 166) : ¬ InF p ns b := fun hi => by
  rcases List.mem_cons.1 hi with e | e
  · obtain ⟨cs', hc, _⟩ := h.hd
    rw [← e, hb] at hc
    injection hc with hc
    injection hc with _ hc
    exact h1 hc
  · obtain ⟨n, hn, e⟩ := List.mem_map.1 e
    obtain ⟨cs', hc, _⟩ := h.tow n hn
    rw [e, hb] at hc
    injection hc with hc
    injection hc with _ hc
    exact h2 hc


end Go.Proofs.YtikaoikladbdpaaGreat
namespace Go.Proofs.YtikaoikladbdpaaGreat
open Go.RowKit

def Adj (xs : List Int) : Prop := ∀ k, 0 < k → k < xs.length → xs.getD (k - 1) 0 ≤ xs.getD k 0

def adjB (xs : List Int) : Bool := (List.range xs.length).all fun k => decide (k = 0 ∨ xs.getD (k - 1) 0 ≤ xs.getD k 0)
theorem adjB_iff (xs : List Int) : adjB xs = true ↔ Adj xs := by
  unfold adjB Adj
  simp only [List.all_eq_true, List.mem_range, decide_eq_true_eq]
  exact ⟨fun h k h1 h2 => (h k h2).resolve_left (by omega), fun h k h2 => by
    by_cases e : k = 0
    · exact .inl e
    · exact .inr (h k (by omega) h2)⟩
theorem adjB_no {xs : List Int} (h : ¬ Adj xs) : adjB xs = false := by
  cases e : adjB xs with
  | false => rfl
  | true => exact absurd ((adjB_iff xs).1 e) h

theorem nanAny (w : World) (x : Int) : Calls Tryz.prog 243 #[.int .i32 x] w fun e w' => e = .returned (.bool false) ∧ w = w' := by
  go_enter Tryz.func243, Tryz.ntmps243
  go_wp2
  go_ret
  exact ⟨rfl, rfl⟩

theorem lessAny (w : World) (x y : Int) : Calls Tryz.prog 237 #[.int .i32 x, .int .i32 y] w fun e w' => e = .returned (.bool (decide (x < y))) ∧ w' = w := by
  go_enter Tryz.func237, Tryz.ntmps237
  go_wp2_with (go_at_call 243; refine (nanAny _ _).mono ?_; rintro e w' ⟨rfl, rfl⟩)
  go_ret
  exact ⟨rfl, rfl⟩

theorem heightIn (w : World) (ao : Option Addr) (n cap k : Nat) (hs : List Int) (h : Reads .i64 w ao n hs) :
    Calls Tryz.prog 230 #[.slice ao n cap, .int .i64 k] w fun e w' => e = .returned (.int .i64 (hs.getD k 1)) ∧ w' = w := by
  have hl := h.1
  by_cases hk : k < n
  · obtain ⟨b, off, rfl, hb, hc⟩ := h.2 (by omega)
    have c := hc k hk
    rw [show hs.getD k 0 = hs.getD k 1 by simp [List.getD, show k < hs.length by omega]] at c
    have k0 : (0 : Int) ≤ (k : Int) := by omega
    have hd : ¬ (n : Int) ≤ k := by omega
    clear h hc
    generalize hs.getD k 1 = y at *
    go_enter Tryz.func230, Tryz.ntmps230
    go_wp2
    go_ret
    exact ⟨rfl, rfl⟩
  · rw [show hs.getD k 1 = 1 by simp [List.getD, show hs.length ≤ k by omega]]
    have hd : ¬ (k : Int) < n := by omega
    clear h
    go_enter Tryz.func230, Tryz.ntmps230
    go_wp2
    go_ret
    exact ⟨rfl, rfl⟩

def AdjFrom (xs : List Int) (i : Nat) : Prop := ∀ k, i < k → k < xs.length → xs.getD (k - 1) 0 ≤ xs.getD k 0

set_option maxRecDepth 100000 in
set_option maxHeartbeats 2000000 in
theorem sortedAny (w : World) (ao : Option Addr) (n cap : Nat) (xs : List Int) (h : Reads .i32 w ao n xs) (hn : n ≤ 1000000) :
    Calls Tryz.prog 227 #[.slice ao n cap] w fun e w' => e = .returned (.bool (adjB xs)) ∧ ∃ q, w' = w.drewN q := by
  have hl := h.1
  by_cases h0 : n = 0
  · have HE := Lib.hid (show adjB xs = true from (adjB_iff xs).2 (fun k h1 h2 => by omega))
    subst h0
    clear h
    go_enter Tryz.func227, Tryz.ntmps227
    go_wp2
    go_loopw [3] (fun i wr => i = .int .i64 (-1) ∧ wr = w) (fun _ _ => 0)
    case atStart => exact ⟨rfl, rfl⟩
    case round =>
      obtain ⟨rfl, rfl⟩ := hrel
      go_wp2
      go_ret
      rw [HE.out]
      exact ⟨rfl, 0, rfl⟩
  · obtain ⟨b, off, rfl, hb, hc⟩ := h.2 (by omega)
    have HC := Lib.hid hc
    have HL := Lib.hid hl
    have HS := Lib.hid (show AdjFrom xs (n - 1) from fun k h1 h2 => by omega)
    obtain ⟨m, rfl⟩ : ∃ m, n = m + 1 := ⟨n - 1, by omega⟩
    clear h hc hl h0
    go_enter Tryz.func227, Tryz.ntmps227
    go_wp2
    go_loopw [3] (fun i wr => ∃ j : Nat, j ≤ m ∧ i = .int .i64 j ∧ AdjFrom xs j ∧ ∃ q, wr = w.drewN q) (fun i _ => (intOf i).toNat)
    case atStart => exact ⟨m, Nat.le_refl _, by simp, HS.out, 0, rfl⟩
    case round =>
      obtain ⟨j, hj, rfl, ha, q, rfl⟩ := hrel
      clear HS
      by_cases hp : 0 < j
      · have cj : (w.drewN q).cell? ⟨b, off + j, none⟩ = some (.int .i32 (xs.getD j 0)) := HC.out j (by omega)
        have ci : (w.drewN q).cell? ⟨b, off + (j - 1), none⟩ = some (.int .i32 (xs.getD (j - 1) 0)) := HC.out (j - 1) (by omega)
        have HA := Lib.hid ha
        have HD : Hid ((xs.getD j 0 < xs.getD (j - 1) 0 → adjB xs = false) ∧ (¬ xs.getD j 0 < xs.getD (j - 1) 0 → AdjFrom xs (j - 1))) := Lib.hid ⟨fun h => adjB_no (fun h2 => by have := h2 j hp (by rw [HL.out]; omega); omega), fun h k h1 h2 => by
          by_cases e : k = j
          · subst e; omega
          · exact ha k (by omega) h2⟩
        obtain ⟨i, hi⟩ : ∃ i, i = j - 1 := ⟨_, rfl⟩
        rw [← hi] at ci HD
        have e1 : ((j : Int) - 1) = (i : Int) := by omega
        have e2 : IntKind.i64.wrap ((j : Int) - 1) = (i : Int) := by rw [IntKind.wrap_i64]; omega
        have j0 : (0 : Int) ≤ (j : Int) := by omega
        have i0 : (0 : Int) ≤ (i : Int) := by omega
        have jm : (j : Int) < (m : Int) + 1 := by omega
        have im : (i : Int) < (m : Int) + 1 := by omega
        have HI := Lib.hid hi
        clear ha hi
        obtain ⟨W, hW⟩ : ∃ W, w.drewN q = W := ⟨_, rfl⟩
        rw [hW] at cj ci ⊢
        have HW := Lib.hid hW
        clear hW
        by_cases hlt : xs.getD j 0 < xs.getD (j - 1) 0
        · rw [← HI.out] at hlt
          have HE := Lib.hid (HD.out.1 hlt)
          clear HD
          generalize xs.getD j 0 = y at *
          generalize xs.getD i 0 = z at *
          go_wp2
          go_quiet ((go_at_call 237; exact Calls.quiet_of_same (lessAny _ _ _)))
          go_wp2
          go_ret
          rw [HE.out]
          exact ⟨rfl, q + nq, by rw [← HW.out]; exact World.drewN_drewN _ _ _⟩
        · rw [← HI.out] at hlt
          have HE := Lib.hid (HD.out.2 hlt)
          clear HD
          generalize xs.getD j 0 = y at *
          generalize xs.getD i 0 = z at *
          go_wp2
          go_quiet ((go_at_call 237; exact Calls.quiet_of_same (lessAny _ _ _)))
          go_wp2
          go_roundw
          case rel => exact ⟨i, by have := HI.out; omega, rfl, HE.out, q + nq, by rw [← HW.out]; exact World.drewN_drewN _ _ _⟩
          case measure => have := HI.out; simp [intOf]; omega
      · obtain rfl : j = 0 := by omega
        have HE := Lib.hid (show adjB xs = true from (adjB_iff xs).2 (fun k h1 h2 => ha k h1 h2))
        clear ha
        go_wp2
        go_ret
        rw [HE.out]
        exact ⟨rfl, q, rfl⟩

end Go.Proofs.YtikaoikladbdpaaGreat
namespace Go.Proofs.YtikaoikladbdpaaGreat
open Go.RowKit

def insMany (l : List It) (vs hs : List Int) : Nat → List It
  | 0 => l
  | k + 1 => insIt ⟨vs.getD k 0, hOf (hs.getD k 1)⟩ (insMany l vs hs k)

theorem insMany_length (l : List It) (vs hs : List Int) : ∀ k, (insMany l vs hs k).length = l.length + k
  | 0 => rfl
  | k + 1 => by rw [insMany, insIt_length, insMany_length l vs hs k]; omega

def roomOf (most : Int) (l : List It) (vs : List Int) : Nat := if adjB vs then min (most - l.length).toNat vs.length else 0

def toldB (r n : Nat) : List Bool := List.replicate r true ++ List.replicate (n - r) false
theorem toldB_length {r n : Nat} (h : r ≤ n) : (toldB r n).length = n := by simp [toldB]; omega
theorem toldB_set {r n : Nat} (h : r < n) : (toldB r n).set r true = toldB (r + 1) n := by
  unfold toldB
  rw [List.set_append_right _ _ (by simp), show n - r = (n - (r + 1)) + 1 by omega, List.replicate_succ, List.replicate_succ']
  simp

def BatchPostS (w : World) (F : Nat → Prop) (p : Nat) (most : Int) (l : List It) (vs hs : List Int) (e : Ending) (w' : World) : Prop :=
  ∃ g, w.heap.size ≤ g ∧ e = .returned (.slice (some ⟨g, 0, none⟩) vs.length vs.length) ∧ w'.heap[g]? = some (.cells ((toldB (roomOf most l vs) vs.length).map Value.bool).toArray 4 (0, 0)) ∧ DidS F p most (insMany l vs hs (roomOf most l vs)) w w'

theorem madeBools {w w1 : World} {n : Nat} (ho : w1.ownsRow w.heap.size 4 1 (.slice (some ⟨w.heap.size, 0, none⟩) n n) n (madeCells (Value.bool false).cells (n * 1)).toList) (hg : w.grownBy w1 none) :
    w1.heap[w.heap.size]? = some (.cells ((toldB 0 n).map Value.bool).toArray 4 (0, 0)) ∧ Below w.heap.size w w1 := by
  rw [show (Value.bool false).cells = #[Value.bool false] from rfl, Nat.mul_one, toList_madeCells_one] at ho
  have := rowWhole ho
  refine ⟨by simpa [toldB] using this, (Below.refl _ w).grown hg (Nat.le_refl _) (fun k e => by cases e)⟩

theorem batchNone {w w1 : World} {F : Nat → Prop} {p : Nat} {most : Int} {l : List It} {n : Nat} {vs hs : List Int} (h : Skip w F p most l) (hm : w1.heap[w.heap.size]? = some (.cells ((toldB 0 n).map Value.bool).toArray 4 (0, 0)) ∧ Below w.heap.size w w1) (hl : vs.length = n) (hr : roomOf most l vs = 0) (q : Nat) :
    BatchPostS w F p most l vs hs (.returned (.slice (some ⟨w.heap.size, 0, none⟩) n n)) (w1.drewN q) := by
  refine ⟨w.heap.size, Nat.le_refl _, by rw [hl], by rw [hr, hl]; exact hm.1, ?_⟩
  rw [hr]
  exact h.did ⟨hm.2.os, hm.2.tape, hm.2.output, hm.2.size, hm.2.block⟩

structure BRel (w : World) (F : Nat → Prop) (p : Nat) (most : Int) (l : List It) (vs hs : List Int) (g B n k : Nat) (W : World) : Prop where
  core : ∃ A0 B0 : List Nd, Skp W p most (A0 ++ B0) ∧ itsOf (A0 ++ B0) = insMany l vs hs k ∧ PBox W B (pos p A0) ∧ (k = 0 → A0 = []) ∧ (∀ a ∈ A0, a.v ≤ vs.getD (k - 1) 0) ∧ ∀ x, InF p (A0 ++ B0) x → F x ∨ w.heap.size ≤ x
  told : W.heap[g]? = some (.cells ((toldB k n).map Value.bool).toArray 4 (0, 0))
  wr : Wrote F w W
  new : w.heap.size ≤ g ∧ w.heap.size ≤ B

theorem batchStart {w w1 w2 w3 : World} {F : Nat → Prop} {p : Nat} {most : Int} {l : List It} {n : Nat} {vs hs : List Int} (h : Skip w F p most l) (hm : w1.heap[w.heap.size]? = some (.cells ((toldB 0 n).map Value.bool).toArray 4 (0, 0)) ∧ Below w.heap.size w w1)
    (hq : Below w1.heap.size w1 w2) (hb3 : Below w2.heap.size w2 w3) : BRel w F p most l vs hs w.heap.size w3.heap.size n 0 (w3.alloc (.cells #[.pointer (some ⟨(pos p []) 0, 0, none⟩), .pointer (some ⟨(pos p []) 1, 0, none⟩), .pointer (some ⟨(pos p []) 2, 0, none⟩), .pointer (some ⟨(pos p []) 3, 0, none⟩), .pointer (some ⟨(pos p []) 4, 0, none⟩), .pointer (some ⟨(pos p []) 5, 0, none⟩), .pointer (some ⟨(pos p []) 6, 0, none⟩), .pointer (some ⟨(pos p []) 7, 0, none⟩)] 289)) := by
  have h1 := hm.2.size
  have h2 := hq.size
  have h3 := hb3.size
  have p0 := PBox.new w3 (pos p [])
  have e1 : Below w1.heap.size w1 (w3.alloc (.cells #[.pointer (some ⟨(pos p []) 0, 0, none⟩), .pointer (some ⟨(pos p []) 1, 0, none⟩), .pointer (some ⟨(pos p []) 2, 0, none⟩), .pointer (some ⟨(pos p []) 3, 0, none⟩), .pointer (some ⟨(pos p []) 4, 0, none⟩), .pointer (some ⟨(pos p []) 5, 0, none⟩), .pointer (some ⟨(pos p []) 6, 0, none⟩), .pointer (some ⟨(pos p []) 7, 0, none⟩)] 289)) := (hq.trans (hb3.mono h2)).trans ((Below.refl _ w3).alloc (by omega) _)
  generalize w3.alloc (.cells #[.pointer (some ⟨(pos p []) 0, 0, none⟩), .pointer (some ⟨(pos p []) 1, 0, none⟩), .pointer (some ⟨(pos p []) 2, 0, none⟩), .pointer (some ⟨(pos p []) 3, 0, none⟩), .pointer (some ⟨(pos p []) 4, 0, none⟩), .pointer (some ⟨(pos p []) 5, 0, none⟩), .pointer (some ⟨(pos p []) 6, 0, none⟩), .pointer (some ⟨(pos p []) 7, 0, none⟩)] 289) = W at *
  have e0 := hm.2.trans (e1.mono h1)
  obtain ⟨ns, m, hi, hF, _⟩ := h
  exact ⟨⟨[], ns, m.keep fun g hg => e0.block g (m.bod.lt g hg), hi, p0, fun _ => rfl, by simp, fun x hx => .inl (hF x hx)⟩, (e1.block _ (lt_of_block hm.1)).trans hm.1, Wrote.of e0 F, Nat.le_refl _, by omega⟩

theorem batchDrew (w1 : World) (q : Nat) : Below w1.heap.size w1 (w1.drewN q) := ⟨rfl, rfl, rfl, Nat.le_refl _, fun _ _ => rfl⟩

theorem batchPart {W : World} {p : Nat} {most : Int} {A0 B0 : List Nd} {k n : Nat} {vs : List Int} (h : Skp W p most (A0 ++ B0)) (hAv : ∀ a ∈ A0, a.v ≤ vs.getD (k - 1) 0) (hA0 : k = 0 → A0 = []) (hadj : adjB vs = true) (hk : k < n) (hl : vs.length = n) :
    (∀ a ∈ A0 ++ B0.takeWhile (fun a => decide (a.v ≤ vs.getD k 0)), a.v ≤ vs.getD k 0) ∧ (∀ a ∈ B0.dropWhile (fun a => decide (a.v ≤ vs.getD k 0)), vs.getD k 0 < a.v) ∧ PG p (A0 ++ B0.takeWhile (fun a => decide (a.v ≤ vs.getD k 0))) 8 (pos p A0) := by
  have hAk : ∀ a ∈ A0, a.v ≤ vs.getD k 0 := fun a ha => by
    by_cases e : k = 0
    · rw [hA0 e] at ha; simp at ha
    · have h1 := hAv a ha
      have h2 := (adjB_iff vs).1 hadj k (by omega) (by omega)
      omega
  refine ⟨fun a ha => ?_, ?_, fun j _ => ?_, fun j h1 h2 => by omega⟩
  · rcases List.mem_append.1 ha with ha | ha
    · exact hAk a ha
    · exact take_le a ha
  · have hso := h.so
    unfold Rise at hso
    rw [List.map_append, List.pairwise_append] at hso
    exact drop_gt hso.2.1
  · rcases List.mem_cons.1 (pos_mem p A0 j) with e | e
    · rw [e]; simp
    · exact List.mem_cons_of_mem _ (by rw [lv_append]; exact List.mem_append_left _ e)

def BatchPut (w : World) (F : Nat → Prop) (p : Nat) (most : Int) (l : List It) (vs hs : List Int) (g B n k : Nat) (A0 : List Nd) (e : Ending) (w4 : World) : Prop :=
  ∃ G : Nat → Nat, e = .returned (.agg #[.pointer (some ⟨G 0, 0, none⟩), .pointer (some ⟨G 1, 0, none⟩), .pointer (some ⟨G 2, 0, none⟩), .pointer (some ⟨G 3, 0, none⟩), .pointer (some ⟨G 4, 0, none⟩), .pointer (some ⟨G 5, 0, none⟩), .pointer (some ⟨G 6, 0, none⟩), .pointer (some ⟨G 7, 0, none⟩)]) ∧ PBox w4 B (pos p A0) ∧ ∀ w5, w5 = ((((((((w4.setCell ⟨B, 0, none⟩ (.pointer (some ⟨G 0, 0, none⟩))).setCell ⟨B, 1, none⟩ (.pointer (some ⟨G 1, 0, none⟩))).setCell ⟨B, 2, none⟩ (.pointer (some ⟨G 2, 0, none⟩))).setCell ⟨B, 3, none⟩ (.pointer (some ⟨G 3, 0, none⟩))).setCell ⟨B, 4, none⟩ (.pointer (some ⟨G 4, 0, none⟩))).setCell ⟨B, 5, none⟩ (.pointer (some ⟨G 5, 0, none⟩))).setCell ⟨B, 6, none⟩ (.pointer (some ⟨G 6, 0, none⟩))).setCell ⟨B, 7, none⟩ (.pointer (some ⟨G 7, 0, none⟩))) → w5.cell? ⟨g, k, none⟩ = some (.bool false) ∧ w5.frozen? ⟨g, k, none⟩ = false ∧ BRel w F p most l vs hs g B n (k + 1) (w5.setCell ⟨g, k, none⟩ (.bool true))

theorem batchPut {w wr W2 w4 : World} {F : Nat → Prop} {p : Nat} {most : Int} {l : List It} {vs hs : List Int} {g B n k : Nat} {A0 B0 : List Nd} {e : Ending}
    (hc : Skp wr p most (A0 ++ B0) ∧ itsOf (A0 ++ B0) = insMany l vs hs k ∧ PBox wr B (pos p A0) ∧ (k = 0 → A0 = []) ∧ (∀ a ∈ A0, a.v ≤ vs.getD (k - 1) 0) ∧ ∀ x, InF p (A0 ++ B0) x → F x ∨ w.heap.size ≤ x)
    (hr : BRel w F p most l vs hs g B n k wr)
    (hs3 : (∀ a ∈ A0 ++ B0.takeWhile (fun a => decide (a.v ≤ vs.getD k 0)), a.v ≤ vs.getD k 0) ∧ (∀ a ∈ B0.dropWhile (fun a => decide (a.v ≤ vs.getD k 0)), vs.getD k 0 < a.v) ∧ PG p (A0 ++ B0.takeWhile (fun a => decide (a.v ≤ vs.getD k 0))) 8 (pos p A0))
    (hl : ((A0 ++ B0).length : Int) < most) (hkn : k < n) (hb : Below wr.heap.size wr W2)
    (hp : PutPost W2 p (A0 ++ B0).length most (A0 ++ B0.takeWhile (fun a => decide (a.v ≤ vs.getD k 0))) (B0.dropWhile (fun a => decide (a.v ≤ vs.getD k 0))) (vs.getD k 0) (hOf (hs.getD k 1)) e w4) :
    BatchPut w F p most l vs hs g B n k A0 e w4 := by
  obtain ⟨hsk, hits, hpb, hA0, hAv, hin⟩ := hc
  obtain ⟨h1, h2, h3⟩ := hs3
  obtain ⟨tb, ht, he, hbod, hw⟩ := hp
  have hcat : (A0 ++ B0.takeWhile (fun a => decide (a.v ≤ vs.getD k 0))) ++ B0.dropWhile (fun a => decide (a.v ≤ vs.getD k 0)) = A0 ++ B0 := by rw [List.append_assoc, List.takeWhile_append_dropWhile]
  have hT : itsOf (A0 ++ B0.takeWhile (fun a => decide (a.v ≤ vs.getD k 0))) = (itsOf (A0 ++ B0)).takeWhile (fun i => decide (i.v ≤ vs.getD k 0)) := by
    rw [← its_take, List.takeWhile_append_of_pos]
    intro a ha
    exact decide_eq_true (h1 a (List.mem_append_left _ ha))
  have hD : itsOf (B0.dropWhile (fun a => decide (a.v ≤ vs.getD k 0))) = (itsOf (A0 ++ B0)).dropWhile (fun i => decide (i.v ≤ vs.getD k 0)) := by
    rw [← its_drop, List.dropWhile_append_of_pos]
    intro a ha
    exact decide_eq_true (h1 a (List.mem_append_left _ ha))
  rw [hcat] at hw
  have hso := hsk.so
  have hmo := hsk.mo
  rw [← hcat] at hso
  generalize A0 ++ B0.takeWhile (fun a => decide (a.v ≤ vs.getD k 0)) = A at *
  generalize B0.dropWhile (fun a => decide (a.v ≤ vs.getD k 0)) = Bq at *
  have hbW := hsk.bod.below hb
  have hpb4 : PBox w4 B (pos p A0) := (hw.block B (hpb.below hb).lt (hbW.notIn (hpb.below hb) (by decide) (by decide))).trans (hpb.below hb)
  have ht2 := (hb.block g (lt_of_block hr.told)).trans hr.told
  have ht4 : w4.heap[g]? = some (.cells ((toldB k n).map Value.bool).toArray 4 (0, 0)) := (hw.block g (lt_of_block ht2) (hbW.notIn ht2 (by decide) (by decide))).trans ht2
  have hgB : g ≠ B := fun e => by
    unfold PBox at hpb4
    rw [← e, ht4] at hpb4
    injection hpb4 with hpb4
    injection hpb4 with _ hpb4
    exact absurd hpb4 (by decide)
  refine ⟨pos p (A ++ [⟨tb, vs.getD k 0, hOf (hs.getD k 1)⟩]), he, hpb4, fun w5 h5 => ?_⟩
  have hw8 := wrote8 (F := fun b => b = B) (Wrote.refl _ w4) (B := B) (.inr rfl) (.pointer (some ⟨pos p (A ++ [⟨tb, vs.getD k 0, hOf (hs.getD k 1)⟩]) 0, 0, none⟩)) (.pointer (some ⟨pos p (A ++ [⟨tb, vs.getD k 0, hOf (hs.getD k 1)⟩]) 1, 0, none⟩)) (.pointer (some ⟨pos p (A ++ [⟨tb, vs.getD k 0, hOf (hs.getD k 1)⟩]) 2, 0, none⟩)) (.pointer (some ⟨pos p (A ++ [⟨tb, vs.getD k 0, hOf (hs.getD k 1)⟩]) 3, 0, none⟩)) (.pointer (some ⟨pos p (A ++ [⟨tb, vs.getD k 0, hOf (hs.getD k 1)⟩]) 4, 0, none⟩)) (.pointer (some ⟨pos p (A ++ [⟨tb, vs.getD k 0, hOf (hs.getD k 1)⟩]) 5, 0, none⟩)) (.pointer (some ⟨pos p (A ++ [⟨tb, vs.getD k 0, hOf (hs.getD k 1)⟩]) 6, 0, none⟩)) (.pointer (some ⟨pos p (A ++ [⟨tb, vs.getD k 0, hOf (hs.getD k 1)⟩]) 7, 0, none⟩))
  have hp5 := hpb4.set8 (pos p (A ++ [⟨tb, vs.getD k 0, hOf (hs.getD k 1)⟩]))
  rw [← h5] at hw8 hp5
  have ht5 : w5.heap[g]? = some (.cells ((toldB k n).map Value.bool).toArray 4 (0, 0)) := (hw8.block g (lt_of_block ht4) hgB).trans ht4
  have hb5 : Bod w5 p (((A0 ++ B0).length : Nat) + 1 : Int) most (A ++ ⟨tb, vs.getD k 0, hOf (hs.getD k 1)⟩ :: Bq) := hbod.keep fun x hx => hw8.block x (hbod.lt x hx) fun e => hbod.notIn hpb4 (by decide) (by decide) (e ▸ hx)
  have hlen : (toldB k n).length = n := toldB_length (by omega)
  have hgn : ¬ InF p (A ++ ⟨tb, vs.getD k 0, hOf (hs.getD k 1)⟩ :: Bq) g := hb5.notIn ht5 (by decide) (by decide)
  have hnl : (A ++ ⟨tb, vs.getD k 0, hOf (hs.getD k 1)⟩ :: Bq).length = (A0 ++ B0).length + 1 := by
    have := congrArg List.length hcat
    simp only [List.length_append, List.length_cons] at this ⊢
    omega
  refine ⟨?_, by simp [World.frozen?, ht5], ⟨A ++ [⟨tb, vs.getD k 0, hOf (hs.getD k 1)⟩], Bq, ?_, ?_, ?_, fun h => by omega, fun a ha => ?_, fun x hx => ?_⟩, ?_, ?_, hr.new⟩
  · simp only [World.cell?, ht5]
    have : (toldB k n)[k]? = some false := by
      unfold toldB
      rw [List.getElem?_append_right (by simp), List.length_replicate, Nat.sub_self, show n - k = (n - k - 1) + 1 by omega, List.replicate_succ]
      rfl
    simp [this]
  · rw [List.append_assoc]
    refine ⟨?_, rise_ins hso h1 h2, by simp only [List.singleton_append, hnl]; omega, hmo⟩
    simp only [List.singleton_append, hnl]
    exact hb5.keep fun x hx => Below.heap_setCell _ _ _ _ (fun e => hgn ((show x = g from e) ▸ hx))
  · rw [List.append_assoc, insMany, ← hits]
    unfold insIt
    rw [← hT, ← hD]
    simp [itsOf]
  · exact (Below.heap_setCell _ _ _ _ (Ne.symm hgB)).trans hp5
  · rw [Nat.add_sub_cancel]
    rcases List.mem_append.1 ha with ha | ha
    · exact h1 a ha
    · simp at ha; rw [ha]; exact Int.le_refl _
  · have hx2 : InF p (A0 ++ B0) x ∨ x = tb := by
      rw [← hcat]
      simp only [InF, blks, List.map_append, List.map_cons, List.map_nil, List.mem_append, List.mem_cons, List.not_mem_nil, or_false] at hx ⊢
      rcases hx with hx | (hx | hx) | hx
      · exact .inl (.inl hx)
      · exact .inl (.inr (.inl hx))
      · exact .inr hx
      · exact .inl (.inr (.inr hx))
    rcases hx2 with hx2 | hx2
    · exact hin x hx2
    · have q1 := hb.size
      have q2 := hr.wr.size
      exact .inr (by omega)
  · have := set_block ht5 k (.bool true)
    rw [this]
    congr 2
    rw [← toldB_set hkn]
    simp
  · have q1 : Wrote F w w4 := by
      have q0 : Wrote F w W2 := hr.wr.trans (Wrote.of hb F)
      refine ⟨hw.os.trans q0.os, hw.tape.trans q0.tape, hw.output.trans q0.output, Nat.le_trans q0.size hw.size, fun x hx hF => ?_⟩
      refine (hw.block x (Nat.lt_of_lt_of_le hx q0.size) fun e => ?_).trans (q0.block x hx hF)
      rcases hin x e with e | e
      · exact hF e
      · omega
    have q5 : Wrote F w w5 := by rw [h5]; exact wrote8 q1 (.inl hr.new.2) _ _ _ _ _ _ _ _
    exact q5.setCell (.inl hr.new.1) _

theorem batchEnd {w W : World} {F : Nat → Prop} {p : Nat} {most : Int} {l : List It} {n r B : Nat} {vs hs : List Int} (h : Skip w F p most l) (hr : roomOf most l vs = r) (hl : vs.length = n) (hb : BRel w F p most l vs hs w.heap.size B n r W) :
    BatchPostS w F p most l vs hs (.returned (.slice (some ⟨w.heap.size, 0, none⟩) n n)) W := by
  obtain ⟨A0, B0, hsk, hits, _, _, _, hin⟩ := hb.core
  refine ⟨w.heap.size, Nat.le_refl _, by rw [hl], by rw [hr, hl]; exact hb.told, ?_⟩
  rw [hr]
  refine ⟨fun g => F g ∨ New w W g, ⟨A0 ++ B0, hsk, hits, fun g hg => ?_, fun g hg => ?_⟩, hb.wr, fun g hg => ?_⟩
  · rcases hin g hg with e | e
    · exact .inl e
    · exact .inr ⟨e, hsk.bod.lt g hg⟩
  · rcases hg with e | e
    · exact Nat.lt_of_lt_of_le (h.foot g e) hb.wr.size
    · exact e.2
  · rcases hg with e | e
    · exact .inl e
    · exact .inr e.1

theorem Reads.offIf {k : IntKind} {F : Nat → Prop} {w w' : World} {ao : Option Addr} {len : Nat} {zs : List Int} (h : Reads k w ao len zs) (hF : 0 < len → Off F ao) (hb : Wrote F w w') : Reads k w' ao len zs := by
  by_cases h0 : 0 < len
  · exact h.off (hF h0) hb
  · exact ⟨h.1, fun h => absurd h h0⟩

section
variable {w : World} {F : Nat → Prop} {p : Nat} {most : Int} {l : List It}

set_option maxRecDepth 100000 in
set_option maxHeartbeats 4000000 in
theorem batchAnyIf (h : Skip w F p most l) (ao bo : Option Addr) (n cap m capb : Nat) (vs hs : List Int) (hv : Reads .i32 w ao n vs) (hh : Reads .i64 w bo m hs) (hF : 0 < n → Off F ao) (hG : 0 < m → Off F bo) (hn : n ≤ 1000000) (hcap : n ≤ cap) :
    Calls Tryz.prog 216 #[.pointer (some ⟨p, 0, none⟩), .slice ao n cap, .slice bo m capb] w (BatchPostS w F p most l vs hs) := by
  obtain ⟨i0, hi, hz0, hz1, hz2⟩ := info_parts infoBool
  have H := Lib.hid h
  have HV := Lib.hid hv
  have HH := Lib.hid hh
  have hmo := h.mo
  have hlen := h.len
  clear h hv hh
  go_enter Tryz.func216, Tryz.ntmps216
  go_wp2_with (at_make; refine wpList_make_full _ rfl _ _ 47 rfl w.heap.size 4 i0 _ 1 Tryz.underlying47 hi hz0 hz1 .i64 .i64 _ _ n rfl rfl rfl rfl (by rw [hz2]; omega) (by simp only [maxLen]; omega) (Nat.le_refl _) ?_; intro w1 hown1 hgrow1; have HM := Lib.hid (madeBools hown1 hgrow1); clear hown1 hgrow1)
  have h1 := H.out.fresh HM.out.2
  have M := mostAny h1
  have L := lenAny h1
  have H1 := Lib.hid h1
  clear h1
  generalize hll : l.length = ll at *
  have HLL := Lib.hid hll
  clear hll
  by_cases hmin : most - ll ≤ n
  · obtain ⟨R, hR⟩ : ∃ R : Nat, most = R + ll := ⟨(most - ll).toNat, by omega⟩
    have HRoom := Lib.hid (show roomOf most l vs = if adjB vs then R else 0 by unfold roomOf; rw [HLL.out, HV.out.1]; congr 1; omega)
    rw [hR] at M
    have HMost := Lib.hid hR
    have hlt : (R : Int) ≤ n := by omega
    have hrc : (R : Int) ≤ cap := by omega
    clear hR hmin
    have hs1 := HV.out.keep HM.out.2
    have S := sortedAny w1 ao n cap vs hs1 hn
    clear hs1
    by_cases hz : R = 0
    · have HQ := Lib.hid (batchNone (p := p) (hs := hs) H.out HM.out HV.out.1 (show roomOf most l vs = 0 by rw [HRoom.out, hz]; simp) 0)
      go_wp2_with (first | (go_at_call 206; refine L.mono ?_; rintro e w' ⟨rfl, rfl⟩) | (go_at_call 226; refine M.mono ?_; rintro e w' ⟨rfl, rfl⟩))
      go_ret
      exact HQ.out
    · have hzp : 0 < R := by omega
      cases hadj : adjB vs with
      | false =>
        rw [hadj] at S
        have HQ := Lib.hid (batchNone (p := p) (hs := hs) H.out HM.out HV.out.1 (show roomOf most l vs = 0 by unfold roomOf; rw [hadj]; rfl))
        clear hadj
        go_wp2_with (first | (go_at_call 206; refine L.mono ?_; rintro e w' ⟨rfl, rfl⟩) | (go_at_call 226; refine M.mono ?_; rintro e w' ⟨rfl, rfl⟩) | (go_at_call 227; refine S.mono ?_; rintro e w' ⟨rfl, q, rfl⟩))
        go_ret
        exact HQ.out q
      | true =>
        rw [hadj] at S
        have HAd := Lib.hid hadj
        clear hadj
        go_wp2_with (first | (go_at_call 206; refine L.mono ?_; rintro e w' ⟨rfl, rfl⟩) | (go_at_call 226; refine M.mono ?_; rintro e w' ⟨rfl, rfl⟩))
        refine S.mono ?_
        clear S L M
        rintro e w' ⟨rfl, q, rfl⟩
        have HWq := Lib.hid (batchDrew w1 q)
        generalize w1.drewN q = w2 at *
        go_wp2_with fail
        refine (startAny _ _).mono ?_
        rintro e w3 ⟨rfl, hb3⟩
        go_wp2
        have HI0 := Lib.hid (batchStart (vs := vs) (hs := hs) H.out HM.out HWq.out hb3)
        clear hb3
        generalize w3.alloc (.cells #[.pointer (some ⟨(pos p []) 0, 0, none⟩), .pointer (some ⟨(pos p []) 1, 0, none⟩), .pointer (some ⟨(pos p []) 2, 0, none⟩), .pointer (some ⟨(pos p []) 3, 0, none⟩), .pointer (some ⟨(pos p []) 4, 0, none⟩), .pointer (some ⟨(pos p []) 5, 0, none⟩), .pointer (some ⟨(pos p []) 6, 0, none⟩), .pointer (some ⟨(pos p []) 7, 0, none⟩)] 289) = W0 at *
        have HR := Lib.hid (show R ≤ n ∧ (l.length : Int) + R ≤ most by have := HLL.out; have := HMost.out; omega)
        have HRm := Lib.hid (show roomOf most l vs = R by rw [HRoom.out, HAd.out]; rfl)
        clear hrc hlt HWq
        obtain ⟨b, off, rfl, hbl, hcs⟩ := HV.out.2 (by have := HR.out; omega)
        have HCS := Lib.hid (And.intro hbl (And.intro hcs (hF (by have := HR.out; omega) _ rfl)))
        clear hbl hcs
        go_loopw [37] (fun i wr => ∃ k : Nat, k ≤ R ∧ i = .int .i64 k ∧ BRel w F p most l vs hs w.heap.size w3.heap.size n k wr) (fun i _ => R - (intOf i).toNat)
        case atStart => exact ⟨0, Nat.zero_le _, rfl, HI0.out⟩
        case round =>
          obtain ⟨k, hk, rfl, hr⟩ := hrel
          clear HI0
          by_cases hkR : k < R
          · obtain ⟨A0, B0, hsk, hits, hpb, hA0, hAv, hin⟩ := hr.core
            have hkn : k < n := by have := HR.out; omega
            have cv : wr.cell? ⟨b, off + k, none⟩ = some (.int .i32 (vs.getD k 0)) := (hr.wr.cell (p := ⟨b, off + k, none⟩) HCS.out.1 HCS.out.2.2).trans (HCS.out.2.1 k hkn)
            have hne : ∀ x, InF p (A0 ++ B0) x → x < wr.heap.size := hsk.bod.lt
            have p0 := hpb.cell 0 (by omega)
            have p1 := hpb.cell 1 (by omega)
            have p2 := hpb.cell 2 (by omega)
            have p3 := hpb.cell 3 (by omega)
            have p4 := hpb.cell 4 (by omega)
            have p5 := hpb.cell 5 (by omega)
            have p6 := hpb.cell 6 (by omega)
            have p7 := hpb.cell 7 (by omega)
            have HST := Lib.hid (batchPart hsk hAv hA0 HAd.out hkn HV.out.1)
            have C : Hid (∀ W, Below wr.heap.size wr W → Calls Tryz.prog 229 #[.pointer (some ⟨p, 0, none⟩), (.agg #[.pointer (some ⟨(pos p A0) 0, 0, none⟩), .pointer (some ⟨(pos p A0) 1, 0, none⟩), .pointer (some ⟨(pos p A0) 2, 0, none⟩), .pointer (some ⟨(pos p A0) 3, 0, none⟩), .pointer (some ⟨(pos p A0) 4, 0, none⟩), .pointer (some ⟨(pos p A0) 5, 0, none⟩), .pointer (some ⟨(pos p A0) 6, 0, none⟩), .pointer (some ⟨(pos p A0) 7, 0, none⟩)]), .int .i32 (vs.getD k 0), .int .i64 (hs.getD k 1)] W (PutPost W p (A0 ++ B0).length most (A0 ++ B0.takeWhile (fun a => decide (a.v ≤ vs.getD k 0))) (B0.dropWhile (fun a => decide (a.v ≤ vs.getD k 0))) (vs.getD k 0) (hOf (hs.getD k 1)))) := Lib.hid fun W hW =>
              putAny (by rw [List.append_assoc, List.takeWhile_append_dropWhile]; exact hsk.bod.below hW) _ _ HST.out.1 HST.out.2.1 _ HST.out.2.2 (by omega) (by have := hsk.len; omega)
            have HHt : Hid (∀ W, Wrote F w W → Calls Tryz.prog 230 #[.slice bo m capb, .int .i64 k] W fun e w' => e = .returned (.int .i64 (hs.getD k 1)) ∧ w' = W) := Lib.hid fun W hW => heightIn W bo m capb k hs (HH.out.offIf hG hW)
            have HR0 := Lib.hid hr
            have HC0 := Lib.hid (And.intro hsk (And.intro hits (And.intro hpb (And.intro hA0 (And.intro hAv hin)))))
            have k0 : (0 : Int) ≤ (k : Int) := by omega
            have kR : (k : Int) < R := by omega
            clear hsk hits hpb hA0 hAv hin hr hne
            have HBP : Hid (∀ W2 e w4, Below wr.heap.size wr W2 → PutPost W2 p (A0 ++ B0).length most (A0 ++ B0.takeWhile (fun a => decide (a.v ≤ vs.getD k 0))) (B0.dropWhile (fun a => decide (a.v ≤ vs.getD k 0))) (vs.getD k 0) (hOf (hs.getD k 1)) e w4 → BatchPut w F p most l vs hs w.heap.size w3.heap.size n k A0 e w4) := Lib.hid fun W2 e w4 hb hp =>
              batchPut HC0.out HR0.out HST.out (by have := HR.out; have := insMany_length l vs hs k; have h2 := congrArg List.length HC0.out.2.1; simp only [itsOf, List.length_map] at h2; omega) hkn hb hp
            clear HST
            generalize vs.getD k 0 = y at *
            generalize hs.getD k 1 = hy at *
            go_wp2
            refine wp_region_still_tail 6 (by kernel_rfl) (by kernel_rfl) ?_
            simp only [List.take_succ_cons, List.take_zero, List.drop_succ_cons, List.drop_zero]
            repeat still_step
            still_call (HHt.out wr.drew HR0.out.wr.drew)
            refine wpStill_nil ?_
            change wpList _ _ _ _ _ wr.drew
            have HB1 := Lib.hid (show Below wr.heap.size wr wr.drew from (Below.refl _ _).drew)
            clear p0 p1 p2 p3 p4 p5 p6 p7 cv
            generalize wr.drew = W2 at *
            go_wp2_with fail
            refine (C.out W2 HB1.out).mono ?_
            intro e w4 hp
            obtain ⟨G, he, hp4, h5⟩ := HBP.out W2 e w4 HB1.out hp
            subst he
            have H5 := Lib.hid h5
            clear hp h5
            have r0 := hp4.cell 0 (by omega)
            have f0 := hp4.f 0
            have r1 := hp4.cell 1 (by omega)
            have f1 := hp4.f 1
            have r2 := hp4.cell 2 (by omega)
            have f2 := hp4.f 2
            have r3 := hp4.cell 3 (by omega)
            have f3 := hp4.f 3
            have r4 := hp4.cell 4 (by omega)
            have f4 := hp4.f 4
            have r5 := hp4.cell 5 (by omega)
            have f5 := hp4.f 5
            have r6 := hp4.cell 6 (by omega)
            have f6 := hp4.f 6
            have r7 := hp4.cell 7 (by omega)
            have f7 := hp4.f 7
            clear hp4
            go_upto_region 10 with (fail)
            obtain ⟨cg, fg, hb5⟩ := H5.out _ rfl
            have HB5 := Lib.hid hb5
            clear hb5
            generalize ((((((((w4.setCell ⟨w3.heap.size, 0, none⟩ (.pointer (some ⟨G 0, 0, none⟩))).setCell ⟨w3.heap.size, 1, none⟩ (.pointer (some ⟨G 1, 0, none⟩))).setCell ⟨w3.heap.size, 2, none⟩ (.pointer (some ⟨G 2, 0, none⟩))).setCell ⟨w3.heap.size, 3, none⟩ (.pointer (some ⟨G 3, 0, none⟩))).setCell ⟨w3.heap.size, 4, none⟩ (.pointer (some ⟨G 4, 0, none⟩))).setCell ⟨w3.heap.size, 5, none⟩ (.pointer (some ⟨G 5, 0, none⟩))).setCell ⟨w3.heap.size, 6, none⟩ (.pointer (some ⟨G 6, 0, none⟩))).setCell ⟨w3.heap.size, 7, none⟩ (.pointer (some ⟨G 7, 0, none⟩))) = w5 at *
            clear H5
            go_wp2
            go_roundw
            case rel => exact ⟨k + 1, by omega, by go_num, HB5.out⟩
            case measure => simp [intOf]; omega
          · obtain rfl : k = R := by omega
            have HQ := Lib.hid (batchEnd H.out HRm.out HV.out.1 hr)
            clear hr
            go_wp2
            go_ret
            exact HQ.out
  · have HMost := Lib.hid hmin
    have hlt : (n : Int) < most - ll := by omega
    have hrc : (n : Int) ≤ cap := by omega
    have HRoom := Lib.hid (show roomOf most l vs = if adjB vs then n else 0 by unfold roomOf; rw [HLL.out, HV.out.1]; congr 1; omega)
    have hs1 := HV.out.keep HM.out.2
    have S := sortedAny w1 ao n cap vs hs1 hn
    clear hs1
    by_cases hz : n = 0
    · subst hz
      have HQ := Lib.hid (batchNone (p := p) (hs := hs) H.out HM.out HV.out.1 (show roomOf most l vs = 0 by rw [HRoom.out]; simp) 0)
      go_wp2_with (first | (go_at_call 206; refine L.mono ?_; rintro e w' ⟨rfl, rfl⟩) | (go_at_call 226; refine M.mono ?_; rintro e w' ⟨rfl, rfl⟩))
      go_ret
      exact HQ.out
    · have hzp : 0 < n := by omega
      cases hadj : adjB vs with
      | false =>
        rw [hadj] at S
        have HQ := Lib.hid (batchNone (p := p) (hs := hs) H.out HM.out HV.out.1 (show roomOf most l vs = 0 by unfold roomOf; rw [hadj]; rfl))
        clear hadj
        go_wp2_with (first | (go_at_call 206; refine L.mono ?_; rintro e w' ⟨rfl, rfl⟩) | (go_at_call 226; refine M.mono ?_; rintro e w' ⟨rfl, rfl⟩) | (go_at_call 227; refine S.mono ?_; rintro e w' ⟨rfl, q, rfl⟩))
        go_ret
        exact HQ.out q
      | true =>
        rw [hadj] at S
        have HAd := Lib.hid hadj
        clear hadj
        go_wp2_with (first | (go_at_call 206; refine L.mono ?_; rintro e w' ⟨rfl, rfl⟩) | (go_at_call 226; refine M.mono ?_; rintro e w' ⟨rfl, rfl⟩))
        refine S.mono ?_
        clear S L M
        rintro e w' ⟨rfl, q, rfl⟩
        have HWq := Lib.hid (batchDrew w1 q)
        generalize w1.drewN q = w2 at *
        go_wp2_with fail
        refine (startAny _ _).mono ?_
        rintro e w3 ⟨rfl, hb3⟩
        go_wp2
        have HI0 := Lib.hid (batchStart (vs := vs) (hs := hs) H.out HM.out HWq.out hb3)
        clear hb3
        generalize w3.alloc (.cells #[.pointer (some ⟨(pos p []) 0, 0, none⟩), .pointer (some ⟨(pos p []) 1, 0, none⟩), .pointer (some ⟨(pos p []) 2, 0, none⟩), .pointer (some ⟨(pos p []) 3, 0, none⟩), .pointer (some ⟨(pos p []) 4, 0, none⟩), .pointer (some ⟨(pos p []) 5, 0, none⟩), .pointer (some ⟨(pos p []) 6, 0, none⟩), .pointer (some ⟨(pos p []) 7, 0, none⟩)] 289) = W0 at *
        have HR := Lib.hid (show n ≤ n ∧ (l.length : Int) + n ≤ most by have := HLL.out; have := HMost.out; omega)
        have HRm := Lib.hid (show roomOf most l vs = n by rw [HRoom.out, HAd.out]; rfl)
        clear hrc hlt HWq
        obtain ⟨b, off, rfl, hbl, hcs⟩ := HV.out.2 (by have := HR.out; omega)
        have HCS := Lib.hid (And.intro hbl (And.intro hcs (hF (by have := HR.out; omega) _ rfl)))
        clear hbl hcs
        go_loopw [37] (fun i wr => ∃ k : Nat, k ≤ n ∧ i = .int .i64 k ∧ BRel w F p most l vs hs w.heap.size w3.heap.size n k wr) (fun i _ => n - (intOf i).toNat)
        case atStart => exact ⟨0, Nat.zero_le _, rfl, HI0.out⟩
        case round =>
          obtain ⟨k, hk, rfl, hr⟩ := hrel
          clear HI0
          by_cases hkR : k < n
          · obtain ⟨A0, B0, hsk, hits, hpb, hA0, hAv, hin⟩ := hr.core
            have hkn : k < n := by have := HR.out; omega
            have cv : wr.cell? ⟨b, off + k, none⟩ = some (.int .i32 (vs.getD k 0)) := (hr.wr.cell (p := ⟨b, off + k, none⟩) HCS.out.1 HCS.out.2.2).trans (HCS.out.2.1 k hkn)
            have hne : ∀ x, InF p (A0 ++ B0) x → x < wr.heap.size := hsk.bod.lt
            have p0 := hpb.cell 0 (by omega)
            have p1 := hpb.cell 1 (by omega)
            have p2 := hpb.cell 2 (by omega)
            have p3 := hpb.cell 3 (by omega)
            have p4 := hpb.cell 4 (by omega)
            have p5 := hpb.cell 5 (by omega)
            have p6 := hpb.cell 6 (by omega)
            have p7 := hpb.cell 7 (by omega)
            have HST := Lib.hid (batchPart hsk hAv hA0 HAd.out hkn HV.out.1)
            have C : Hid (∀ W, Below wr.heap.size wr W → Calls Tryz.prog 229 #[.pointer (some ⟨p, 0, none⟩), (.agg #[.pointer (some ⟨(pos p A0) 0, 0, none⟩), .pointer (some ⟨(pos p A0) 1, 0, none⟩), .pointer (some ⟨(pos p A0) 2, 0, none⟩), .pointer (some ⟨(pos p A0) 3, 0, none⟩), .pointer (some ⟨(pos p A0) 4, 0, none⟩), .pointer (some ⟨(pos p A0) 5, 0, none⟩), .pointer (some ⟨(pos p A0) 6, 0, none⟩), .pointer (some ⟨(pos p A0) 7, 0, none⟩)]), .int .i32 (vs.getD k 0), .int .i64 (hs.getD k 1)] W (PutPost W p (A0 ++ B0).length most (A0 ++ B0.takeWhile (fun a => decide (a.v ≤ vs.getD k 0))) (B0.dropWhile (fun a => decide (a.v ≤ vs.getD k 0))) (vs.getD k 0) (hOf (hs.getD k 1)))) := Lib.hid fun W hW =>
              putAny (by rw [List.append_assoc, List.takeWhile_append_dropWhile]; exact hsk.bod.below hW) _ _ HST.out.1 HST.out.2.1 _ HST.out.2.2 (by omega) (by have := hsk.len; omega)
            have HHt : Hid (∀ W, Wrote F w W → Calls Tryz.prog 230 #[.slice bo m capb, .int .i64 k] W fun e w' => e = .returned (.int .i64 (hs.getD k 1)) ∧ w' = W) := Lib.hid fun W hW => heightIn W bo m capb k hs (HH.out.offIf hG hW)
            have HR0 := Lib.hid hr
            have HC0 := Lib.hid (And.intro hsk (And.intro hits (And.intro hpb (And.intro hA0 (And.intro hAv hin)))))
            have k0 : (0 : Int) ≤ (k : Int) := by omega
            have kR : (k : Int) < n := by omega
            clear hsk hits hpb hA0 hAv hin hr hne
            have HBP : Hid (∀ W2 e w4, Below wr.heap.size wr W2 → PutPost W2 p (A0 ++ B0).length most (A0 ++ B0.takeWhile (fun a => decide (a.v ≤ vs.getD k 0))) (B0.dropWhile (fun a => decide (a.v ≤ vs.getD k 0))) (vs.getD k 0) (hOf (hs.getD k 1)) e w4 → BatchPut w F p most l vs hs w.heap.size w3.heap.size n k A0 e w4) := Lib.hid fun W2 e w4 hb hp =>
              batchPut HC0.out HR0.out HST.out (by have := HR.out; have := insMany_length l vs hs k; have h2 := congrArg List.length HC0.out.2.1; simp only [itsOf, List.length_map] at h2; omega) hkn hb hp
            clear HST
            generalize vs.getD k 0 = y at *
            generalize hs.getD k 1 = hy at *
            go_wp2
            refine wp_region_still_tail 6 (by kernel_rfl) (by kernel_rfl) ?_
            simp only [List.take_succ_cons, List.take_zero, List.drop_succ_cons, List.drop_zero]
            repeat still_step
            still_call (HHt.out wr.drew HR0.out.wr.drew)
            refine wpStill_nil ?_
            change wpList _ _ _ _ _ wr.drew
            have HB1 := Lib.hid (show Below wr.heap.size wr wr.drew from (Below.refl _ _).drew)
            clear p0 p1 p2 p3 p4 p5 p6 p7 cv
            generalize wr.drew = W2 at *
            go_wp2_with fail
            refine (C.out W2 HB1.out).mono ?_
            intro e w4 hp
            obtain ⟨G, he, hp4, h5⟩ := HBP.out W2 e w4 HB1.out hp
            subst he
            have H5 := Lib.hid h5
            clear hp h5
            have r0 := hp4.cell 0 (by omega)
            have f0 := hp4.f 0
            have r1 := hp4.cell 1 (by omega)
            have f1 := hp4.f 1
            have r2 := hp4.cell 2 (by omega)
            have f2 := hp4.f 2
            have r3 := hp4.cell 3 (by omega)
            have f3 := hp4.f 3
            have r4 := hp4.cell 4 (by omega)
            have f4 := hp4.f 4
            have r5 := hp4.cell 5 (by omega)
            have f5 := hp4.f 5
            have r6 := hp4.cell 6 (by omega)
            have f6 := hp4.f 6
            have r7 := hp4.cell 7 (by omega)
            have f7 := hp4.f 7
            clear hp4
            go_upto_region 10 with (fail)
            obtain ⟨cg, fg, hb5⟩ := H5.out _ rfl
            have HB5 := Lib.hid hb5
            clear hb5
            generalize ((((((((w4.setCell ⟨w3.heap.size, 0, none⟩ (.pointer (some ⟨G 0, 0, none⟩))).setCell ⟨w3.heap.size, 1, none⟩ (.pointer (some ⟨G 1, 0, none⟩))).setCell ⟨w3.heap.size, 2, none⟩ (.pointer (some ⟨G 2, 0, none⟩))).setCell ⟨w3.heap.size, 3, none⟩ (.pointer (some ⟨G 3, 0, none⟩))).setCell ⟨w3.heap.size, 4, none⟩ (.pointer (some ⟨G 4, 0, none⟩))).setCell ⟨w3.heap.size, 5, none⟩ (.pointer (some ⟨G 5, 0, none⟩))).setCell ⟨w3.heap.size, 6, none⟩ (.pointer (some ⟨G 6, 0, none⟩))).setCell ⟨w3.heap.size, 7, none⟩ (.pointer (some ⟨G 7, 0, none⟩))) = w5 at *
            clear H5
            go_wp2
            go_roundw
            case rel => exact ⟨k + 1, by omega, by go_num, HB5.out⟩
            case measure => simp [intOf]; omega
          · obtain rfl : k = n := by omega
            have HQ := Lib.hid (batchEnd H.out HRm.out HV.out.1 hr)
            clear hr
            go_wp2
            go_ret
            exact HQ.out

end

end Go.Proofs.YtikaoikladbdpaaGreat
namespace Go.Proofs.YtikaoikladbdpaaGreat
open Go.RowKit

section
variable {w a b : World} {F G : Nat → Prop} {p q : Nat} {most mo2 : Int} {bs bs' cs : List It}
end


def ToldR (w : World) (zs : List Int) (e : Ending) (w' : World) : Prop :=
  ∃ ao cap, e = .returned (.slice ao zs.length cap) ∧ Reads .i32 w' ao zs.length zs ∧ zs.length ≤ cap ∧ (∀ a, ao = some a → w.heap.size ≤ a.block) ∧ Below w.heap.size w w'

theorem ToldL.reads {w w' : World} {zs : List Int} {e : Ending} (h : ToldL w zs e w') : ToldR w zs e w' := by
  obtain ⟨v, he, ho, hb⟩ := h
  obtain ⟨ao, cap, rfl, h1, h2, h3⟩ := reads_own ho
  exact ⟨ao, cap, he, h1, h2, h3, hb⟩

theorem itemsR {w : World} {F : Nat → Prop} {p : Nat} {most : Int} {l : List It} (h : Skip w F p most l) :
    Calls Tryz.prog 205 #[.pointer (some ⟨p, 0, none⟩)] w (ToldR w (l.map It.v)) := (itemsAny h).mono fun _ _ h => h.reads

theorem batchNil (w : World) (ao : Option Addr) (n cap : Nat) (x : Value) (hn : n ≤ 1000000) :
    Calls Tryz.prog 216 #[.pointer none, .slice ao n cap, x] w fun e w' => e = .returned (.slice (some ⟨w.heap.size, 0, none⟩) n n) ∧ w'.heap[w.heap.size]? = some (.cells ((toldB 0 n).map Value.bool).toArray 4 (0, 0)) ∧ Below w.heap.size w w' := by
  obtain ⟨i0, hi, hz0, hz1, hz2⟩ := info_parts infoBool
  by_cases h0 : n = 0
  · subst h0
    go_enter Tryz.func216, Tryz.ntmps216
    go_wp2_with (first
      | (at_make; refine wpList_make_full _ rfl _ _ 47 rfl w.heap.size 4 i0 _ 1 Tryz.underlying47 hi hz0 hz1 .i64 .i64 _ _ 0 rfl rfl rfl rfl (by omega) (by simp only [maxLen]; omega) (Nat.le_refl _) ?_; intro w1 hown1 hgrow1; have HM := Lib.hid (madeBools hown1 hgrow1); clear hown1 hgrow1)
      | (go_at_call 206; refine (lenNil _).mono ?_; rintro e w' ⟨rfl, rfl⟩) | (go_at_call 226; refine (mostNil _).mono ?_; rintro e w' ⟨rfl, rfl⟩))
    go_ret
    exact ⟨rfl, HM.out⟩
  · have hp : (0 : Int) < n := by omega
    go_enter Tryz.func216, Tryz.ntmps216
    go_wp2_with (first
      | (at_make; refine wpList_make_full _ rfl _ _ 47 rfl w.heap.size 4 i0 _ 1 Tryz.underlying47 hi hz0 hz1 .i64 .i64 _ _ n rfl rfl rfl rfl (by rw [hz2]; omega) (by simp only [maxLen]; omega) (Nat.le_refl _) ?_; intro w1 hown1 hgrow1; have HM := Lib.hid (madeBools hown1 hgrow1); clear hown1 hgrow1)
      | (go_at_call 206; refine (lenNil _).mono ?_; rintro e w' ⟨rfl, rfl⟩) | (go_at_call 226; refine (mostNil _).mono ?_; rintro e w' ⟨rfl, rfl⟩))
    go_ret
    exact ⟨rfl, HM.out⟩

end Go.Proofs.YtikaoikladbdpaaGreat
namespace Go.Proofs.YtikaoikladbdpaaGreat

def bitAt (zs : List Int) (m : Nat) : Bool := decide (zs.getD (m / 8) 0 / 2 ^ (m % 8) % 2 = 1)
def first (zs : List Int) (m : Nat) : List Bool := (List.range m).map (bitAt zs)
def rise : Nat → List Bool → Nat × List Bool
  | 0, bs => (0, bs)
  | _ + 1, [] => (0, [])
  | n + 1, true :: bs => ((rise n bs).1 + 1, (rise n bs).2)
  | _ + 1, false :: bs => (0, bs)
def up (bs : List Bool) : Nat := (rise 7 bs).1
def left (bs : List Bool) : List Bool := (rise 7 bs).2

theorem rise_le : ∀ (n : Nat) (bs : List Bool), (rise n bs).1 ≤ n
  | 0, _ => Nat.le_refl _
  | _ + 1, [] => Nat.zero_le _
  | n + 1, true :: bs => Nat.succ_le_succ (rise_le n bs)
  | _ + 1, false :: _ => Nat.zero_le _
theorem up_le (bs : List Bool) : up bs ≤ 7 := rise_le 7 bs
end Go.Proofs.YtikaoikladbdpaaGreat
namespace Go.Proofs.YtikaoikladbdpaaGreat
open Go.RowKit Go.Lib

def stS (m : Int) (s : List It × List Bool) (o : Int × Int) : List It × List Bool :=
  if o.1 = 1 then (if (s.1.length : Int) < m then (insIt ⟨o.2, up s.2 + 1⟩ s.1, left s.2) else s) else if o.1 = 2 then (s.1.tail, s.2) else s
def runS (m : Int) (s : List It × List Bool) (os : List (Int × Int)) : List It × List Bool := os.foldl (stS m) s
def batS (m : Int) (s : List It × List Bool) (os : List (Int × Int)) : List It × List Bool := runS m s (ordO 3 os)
def vals (l : List It) : List Int := l.map It.v

theorem runS_snoc (m : Int) (s : List It × List Bool) (os : List (Int × Int)) (o : Int × Int) : runS m s (os ++ [o]) = stS m (runS m s os) o := by simp [runS]
theorem vals_length (l : List It) : (vals l).length = l.length := by simp [vals]
theorem vals_take (x : Int) : ∀ l : List It, (l.takeWhile (fun i => decide (i.v ≤ x))).map It.v = (vals l).take (fgt x (vals l)) ∧ (l.dropWhile (fun i => decide (i.v ≤ x))).map It.v = (vals l).drop (fgt x (vals l))
  | [] => by simp [vals, fgt]
  | i :: l => by
    by_cases h : i.v ≤ x
    · obtain ⟨h1, h2⟩ := vals_take x l
      rw [List.takeWhile_cons_of_pos (by simpa using h), List.dropWhile_cons_of_pos (by simpa using h)]
      have e : fgt x (vals (i :: l)) = fgt x (vals l) + 1 := by
        show fgt x (i.v :: vals l) = _
        rw [fgt, if_neg (by omega)]
      rw [e]
      show i.v :: _ = (i.v :: vals l).take _ ∧ _ = (i.v :: vals l).drop _
      rw [List.take_succ_cons, List.drop_succ_cons, h1]
      exact ⟨rfl, h2⟩
    · rw [List.takeWhile_cons_of_neg (by simpa using h), List.dropWhile_cons_of_neg (by simpa using h)]
      have e : fgt x (vals (i :: l)) = 0 := by
        show fgt x (i.v :: vals l) = _
        rw [fgt, if_pos (by omega)]
      rw [e]
      exact ⟨rfl, rfl⟩
theorem vals_ins (x : Int) (h : Nat) (l : List It) : vals (insIt ⟨x, h⟩ l) = (vals l).take (fgt x (vals l)) ++ x :: (vals l).drop (fgt x (vals l)) := by
  obtain ⟨h1, h2⟩ := vals_take x l
  rw [← h1, ← h2]
  unfold insIt vals
  simp
theorem stS_vals (m : Int) (s : List It × List Bool) (o : Int × Int) : vals (stS m s o).1 = objL 3 m (vals s.1) o.1 o.2 := by
  unfold stS objL hpL
  rw [if_neg (show ¬ (3 : Int) = 1 by omega), if_neg (show ¬ (3 : Int) = 2 by omega), if_pos rfl, vals_length]
  by_cases h1 : o.1 = 1
  · rw [if_pos h1, if_pos h1]
    by_cases h2 : (s.1.length : Int) < m
    · rw [if_pos h2, if_pos h2]; exact vals_ins _ _ _
    · rw [if_neg h2, if_neg h2]
  · rw [if_neg h1, if_neg h1]
    by_cases h2 : o.1 = 2
    · rw [if_pos h2, if_pos h2]; simp [vals]
    · rw [if_neg h2, if_neg h2]
theorem runS_vals (m : Int) : ∀ (os : List (Int × Int)) (s : List It × List Bool), vals (runS m s os).1 = runZ 3 m (vals s.1) os
  | [], _ => rfl
  | o :: os, s => by
    show vals (runS m (stS m s o) os).1 = runZ 3 m (objL 3 m (vals s.1) o.1 o.2) os
    rw [runS_vals m os, stS_vals]
theorem batS_vals (m : Int) (s : List It × List Bool) (os : List (Int × Int)) : vals (batS m s os).1 = batZ 3 m (vals s.1) os := runS_vals m _ s

def lefts (bs : List Bool) : Nat → List Bool
  | 0 => bs
  | k + 1 => left (lefts bs k)
def hgts (bs : List Bool) (r : Nat) : List Int := (List.range r).map fun i => (up (lefts bs i) : Int) + 1
theorem hgts_length (bs : List Bool) (r : Nat) : (hgts bs r).length = r := by simp [hgts]
theorem hgts_at (bs : List Bool) {r k : Nat} (h : k < r) (d : Int) : (hgts bs r).getD k d = (up (lefts bs k) : Int) + 1 := by simp [hgts, List.getD, h]
def addsL (os : List (Int × Int)) : List Int := sortB (keyOf os) (addsOf 3 os os.length)
def othersL (os : List (Int × Int)) : List Int := othersOf 3 os os.length
def valsL (os : List (Int × Int)) : List Int := (addsL os).map (keyOf os)
theorem ordL_parts (os : List (Int × Int)) : ordL 3 os = addsL os ++ othersL os := rfl
theorem parts_length (os : List (Int × Int)) : (addsL os).length + (othersL os).length = os.length := by
  have := ordL_length 3 os
  rw [ordL_parts, List.length_append] at this
  exact this
theorem addsL_in {os : List (Int × Int)} {x : Int} (h : x ∈ addsL os) : 0 ≤ x ∧ x < os.length ∧ (os.getD x.toNat (0, 0)).1 = 1 := by
  have := List.mem_filter.1 ((sortB_ok (keyOf os) (addsOf 3 os os.length)).1.mem_iff.1 h)
  have h2 := mem_idx.1 this.1
  exact ⟨h2.1, h2.2, by simpa [isAdd] using this.2⟩
theorem othersL_in {os : List (Int × Int)} {x : Int} (h : x ∈ othersL os) : 0 ≤ x ∧ x < os.length ∧ ¬ (os.getD x.toNat (0, 0)).1 = 1 := by
  have := List.mem_filter.1 h
  have h2 := mem_idx.1 this.1
  exact ⟨h2.1, h2.2, by simpa [isAdd] using this.2⟩
theorem getD_mem {l : List Int} {k : Nat} (h : k < l.length) (d : Int) : l.getD k d ∈ l := by simp [List.getD, h]
theorem addsL_at {os : List (Int × Int)} {k : Nat} (h : k < (addsL os).length) : 0 ≤ (addsL os).getD k 0 ∧ (addsL os).getD k 0 < os.length ∧ (os.getD ((addsL os).getD k 0).toNat (0, 0)).1 = 1 := addsL_in (getD_mem h 0)
theorem othersL_at {os : List (Int × Int)} {k : Nat} (h : k < (othersL os).length) : 0 ≤ (othersL os).getD k 0 ∧ (othersL os).getD k 0 < os.length ∧ ¬ (os.getD ((othersL os).getD k 0).toNat (0, 0)).1 = 1 := othersL_in (getD_mem h 0)
theorem valsL_length (os : List (Int × Int)) : (valsL os).length = (addsL os).length := by simp [valsL]
theorem valsL_at {os : List (Int × Int)} {k : Nat} (h : k < (addsL os).length) : (valsL os).getD k 0 = keyOf os ((addsL os).getD k 0) := by simp [valsL, List.getD, h]
theorem valsL_adj (os : List (Int × Int)) : adjB (valsL os) = true := by
  rw [adjB_iff]
  intro k h0 hk
  rw [valsL_length] at hk
  have hs : Srt (keyOf os) (addsL os) := (sortB_ok (keyOf os) (addsOf 3 os os.length)).2
  have h := List.pairwise_iff_getElem.1 hs (k - 1) k (by omega) hk (by omega)
  rw [valsL_at (by omega), valsL_at hk]
  have e1 : (addsL os).getD (k - 1) 0 = (addsL os)[k - 1] := by simp [List.getD, show k - 1 < (addsL os).length by omega]
  have e2 : (addsL os).getD k 0 = (addsL os)[k] := by simp [List.getD, hk]
  rw [e1, e2]
  unfold kLe at h
  omega

theorem ordO_add {os : List (Int × Int)} {k : Nat} (h : k < (addsL os).length) : (ordO 3 os).getD k (0, 0) = (1, (valsL os).getD k 0) := by
  have hn := parts_length os
  have e : (ordL 3 os).getD k 0 = (addsL os).getD k 0 := by rw [ordL_parts]; exact getD_left _ _ _ h
  rw [ordO_at (by omega), e, valsL_at h]
  exact Prod.ext (addsL_at h).2.2 rfl
theorem ordO_other {os : List (Int × Int)} {j : Nat} (h : j < (othersL os).length) : (ordO 3 os).getD ((addsL os).length + j) (0, 0) = os.getD ((othersL os).getD j 0).toNat (0, 0) := by
  have hn := parts_length os
  have e : (ordL 3 os).getD ((addsL os).length + j) 0 = (othersL os).getD j 0 := by rw [ordL_parts]; exact getD_at _ _ _
  rw [ordO_at (by omega), e]

theorem take_ord {os : List (Int × Int)} {k : Nat} (h : k < os.length) : (ordO 3 os).take (k + 1) = (ordO 3 os).take k ++ [(ordO 3 os).getD k (0, 0)] := take_op8 _ k (by rw [ordO_length]; exact h) rfl

def roomS (m : Int) (l : List It) (os : List (Int × Int)) : Nat := min (m - l.length).toNat (addsL os).length
theorem room_is {m : Int} {l : List It} (os : List (Int × Int)) : roomOf m l (valsL os) = roomS m l os := by
  unfold roomOf roomS
  rw [valsL_adj, if_pos rfl, valsL_length]

theorem adds_go {m : Int} {l : List It} (bs : List Bool) (os : List (Int × Int)) (hl : (l.length : Int) ≤ m) : ∀ k, k ≤ (addsL os).length →
    runS m (l, bs) ((ordO 3 os).take k) = (insMany l (valsL os) (hgts bs (roomS m l os)) (min k (roomS m l os)), lefts bs (min k (roomS m l os)))
  | 0, _ => by simp [runS, insMany, lefts]
  | k + 1, hk => by
    have hn := parts_length os
    rw [take_ord (by omega), runS_snoc, adds_go bs os hl k (by omega), ordO_add (by omega)]
    unfold stS
    rw [if_pos rfl, insMany_length]
    by_cases hr : k < roomS m l os
    · have hm : k + 1 ≤ (m - l.length).toNat := Nat.le_trans hr (Nat.min_le_left _ _)
      rw [Nat.min_eq_left (by omega), Nat.min_eq_left (by omega), if_pos (by simp; omega)]
      show (_, _) = (insIt _ _, left _)
      rw [hgts_at bs hr]
      have hu := up_le (lefts bs k)
      have e : hOf ((up (lefts bs k) : Int) + 1) = up (lefts bs k) + 1 := by unfold hOf; split <;> (try split) <;> omega
      rw [e]
    · have hm : (m - l.length).toNat ≤ k := by unfold roomS at hr; omega
      have er : roomS m l os = (m - l.length).toNat := by unfold roomS; omega
      rw [Nat.min_eq_right (by omega), Nat.min_eq_right (by omega), if_neg (by simp; omega)]

theorem adds_all {m : Int} {l : List It} (bs : List Bool) (os : List (Int × Int)) (hl : (l.length : Int) ≤ m) :
    runS m (l, bs) ((ordO 3 os).take (addsL os).length) = (insMany l (valsL os) (hgts bs (roomS m l os)) (roomS m l os), lefts bs (roomS m l os)) := by
  have := adds_go bs os hl (addsL os).length (Nat.le_refl _)
  rwa [Nat.min_eq_right (by unfold roomS; omega)] at this

theorem adds_told {m : Int} {l : List It} (bs : List Bool) (os : List (Int × Int)) (hl : (l.length : Int) ≤ m) {k : Nat} (hk : k < (addsL os).length) :
    (runT 3 m (vals l) (ordO 3 os)).getD k (0, 0) = (if (toldB (roomS m l os) (addsL os).length).getD k false then 1 else 3, 0) := by
  have hn := parts_length os
  rw [runT_at _ _ _ _ (by rw [ordO_length]; omega), ordO_add hk]
  have e := runS_vals m ((ordO 3 os).take k) (l, bs)
  rw [← e, adds_go bs os hl k (by omega)]
  have et : (toldB (roomS m l os) (addsL os).length).getD k false = decide (k < roomS m l os) := by
    unfold toldB
    by_cases h : k < roomS m l os
    · simp [List.getD, List.getElem?_append, h]
    · simp only [List.getD, List.getElem?_append, List.length_replicate, if_neg h, List.getElem?_replicate]
      split <;> simp [h]
  rw [et]
  unfold objC objV hpC hpV
  simp only [vals_length, insMany_length, if_neg (show ¬ (3 : Int) = 1 by omega), if_neg (show ¬ (3 : Int) = 2 by omega), if_true, if_neg (show ¬ (1 : Int) = 2 by omega)]
  by_cases h : k < roomS m l os
  · have hm : k + 1 ≤ (m - l.length).toNat := Nat.le_trans h (Nat.min_le_left _ _)
    rw [if_pos (by simp; omega), if_pos (by simpa using h)]
  · have er : roomS m l os = (m - l.length).toNat := by unfold roomS at h ⊢; omega
    rw [if_neg (by simp; omega), if_neg (by simpa using h)]

theorem others_told {m : Int} {l : List It} (bs : List Bool) (os : List (Int × Int)) {k : Nat} (hk : k < os.length) {Z : List It} {B : List Bool} (hZ : runS m (l, bs) ((ordO 3 os).take k) = (Z, B)) {kd kv : Int} (ho : (ordO 3 os).getD k (0, 0) = (kd, kv)) :
    (runT 3 m (vals l) (ordO 3 os)).getD k (0, 0) = (hpC m (vals Z) kd, hpV (vals Z) kd) ∧ runS m (l, bs) ((ordO 3 os).take (k + 1)) = stS m (Z, B) (kd, kv) := by
  constructor
  · rw [runT_at _ _ _ _ (by rw [ordO_length]; omega), ho]
    have e := runS_vals m ((ordO 3 os).take k) (l, bs)
    rw [← e, hZ]
    unfold objC objV
    simp only [if_neg (show ¬ (3 : Int) = 1 by omega), if_neg (show ¬ (3 : Int) = 2 by omega), if_true]
  · rw [take_ord hk, runS_snoc, hZ, ho]

theorem batS_end (m : Int) (s : List It × List Bool) (os : List (Int × Int)) {k : Nat} (h : os.length ≤ k) : runS m s ((ordO 3 os).take k) = batS m s os := by
  rw [List.take_of_length_le (by rw [ordO_length]; exact h)]
  rfl

end Go.Proofs.YtikaoikladbdpaaGreat
namespace Go.Proofs.YtikaoikladbdpaaGreat.K9

def lineStep (most : Int) (s : Int × List Int) (k kind : Int) : Int × List Int :=
  if kind = 1 then (if s.1 + s.2.length < most then (s.1, s.2 ++ [k]) else s)
  else if kind = 2 then (if s.2 = [] then (if 0 < s.1 then (s.1 - 1, []) else s) else (s.1, s.2.dropLast))
  else s
def lineAt (most there : Int) (ks : Nat → Int) : Nat → Int × List Int
  | 0 => (there, [])
  | k + 1 => lineStep most (lineAt most there ks k) k (ks k)
def lineC (most : Int) (s : Int × List Int) (kind : Int) : Int :=
  if kind = 1 then (if s.1 + s.2.length < most then 1 else 3)
  else if kind = 2 then (if s.2 = [] then (if 0 < s.1 then 2 else 4) else 2)
  else 5
section
variable {most there : Int} {ks : Nat → Int} {n k : Nat}
structure LineOk (most there : Int) (k : Nat) (s : Int × List Int) : Prop where
  low : 0 ≤ s.1
  high : s.1 ≤ there
  room : s.1 + s.2.length ≤ most
  places : ∀ j ∈ s.2, 0 ≤ j ∧ j < k

theorem lineStep_ok {s : Int × List Int} (h : LineOk most there k s) (kind : Int) : LineOk most there (k + 1) (lineStep most s k kind) := by
  obtain ⟨h1, h2, h3, h4⟩ := h
  have up : ∀ j ∈ s.2, 0 ≤ j ∧ j < ((k + 1 : Nat) : Int) := fun j hj => by have := h4 j hj; omega
  unfold lineStep
  split
  · split
    · refine ⟨h1, h2, by simp; omega, fun j hj => ?_⟩
      simp only [List.mem_append, List.mem_singleton] at hj
      rcases hj with hj | rfl
      · exact up j hj
      · omega
    · exact ⟨h1, h2, h3, up⟩
  · split
    · split
      · split
        · refine ⟨by omega, by omega, ?_, fun j hj => by simp at hj⟩
          simp; omega
        · exact ⟨h1, h2, h3, up⟩
      · refine ⟨h1, h2, ?_, fun j hj => up j (List.dropLast_subset _ hj)⟩
        simp only [List.length_dropLast]; omega
    · exact ⟨h1, h2, h3, up⟩
theorem lineAt_ok (h0 : 0 ≤ there) (h1 : there ≤ most) (ks : Nat → Int) : ∀ k, LineOk most there k (lineAt most there ks k)
  | 0 => ⟨h0, Int.le_refl _, by simpa [lineAt] using h1, fun j hj => by simp [lineAt] at hj⟩
  | k + 1 => by
    have h := lineStep_ok (lineAt_ok h0 h1 ks k) (ks k)
    simpa [lineAt] using h

end

end Go.Proofs.YtikaoikladbdpaaGreat.K9
namespace Go.Proofs.YtikaoikladbdpaaGreat
open Go.RowKit Go.Lib

end Go.Proofs.YtikaoikladbdpaaGreat
namespace Go.Proofs.YtikaoikladbdpaaGreat
open Go.RowKit Go.Lib

end Go.Proofs.YtikaoikladbdpaaGreat
namespace Go.Proofs.YtikaoikladbdpaaGreat
open Go.RowKit Go.Lib

def Rw (w : World) (b : Nat) (k : IntKind) (t : TypeId) (xs : List Int) : Prop := w.heap[b]? = some (.cells (xs.map (Value.int k)).toArray t (0, 0))
section
variable {w w' : World} {b : Nat} {k : IntKind} {t : TypeId} {xs : List Int}
theorem Rw.lt (h : Rw w b k t xs) : b < w.heap.size := lt_of_block h
theorem Rw.keep (h : Rw w b k t xs) (hb : w'.heap[b]? = w.heap[b]?) : Rw w' b k t xs := hb.trans h
theorem Rw.below (h : Rw w b k t xs) (hb : Below w.heap.size w w') : Rw w' b k t xs := h.keep (hb.block b h.lt)
theorem Rw.free (h : Rw w b k t xs) (j : Nat) : w.frozen? ⟨b, j, none⟩ = false := by unfold Rw at h; simp [World.frozen?, h]
theorem Rw.cell (h : Rw w b k t xs) {i : Nat} (hi : i < xs.length) : w.cell? ⟨b, i, none⟩ = some (.int k (xs.getD i 0)) := by
  unfold Rw at h
  simp [World.cell?, h, List.getD, hi]
theorem Rw.set (h : Rw w b k t xs) (i : Nat) (x : Int) : Rw (w.setCell ⟨b, i, none⟩ (.int k x)) b k t (xs.set i x) := by
  unfold Rw at h ⊢
  rw [heap_setCell_same w b i _ _ _ h]
  simp
theorem Rw.reads (h : Rw w b k t xs) {n : Nat} (hn : xs.length = n) : Reads k w (some ⟨b, 0, none⟩) n xs := ⟨hn, fun _ => ⟨b, 0, rfl, h.lt, fun i hi => by rw [Nat.zero_add]; exact h.cell (by omega)⟩⟩
end
theorem madeRow {w w1 : World} {n : Nat} {k : IntKind} {t : TypeId} (ho : w1.ownsRow w.heap.size t 1 (.slice (some ⟨w.heap.size, 0, none⟩) n n) n (madeCells (Value.int k 0).cells (n * 1)).toList) (hg : w.grownBy w1 none) :
    Rw w1 w.heap.size k t (List.replicate n 0) ∧ Below w.heap.size w w1 := by
  have hr := rowWhole ho
  rw [show (Value.int k 0).cells = #[Value.int k 0] from rfl, Nat.mul_one, toList_madeCells_one] at hr
  exact ⟨by unfold Rw; rw [hr]; simp, (Below.refl _ _).grown hg (Nat.le_refl _) (by simp)⟩


end Go.Proofs.YtikaoikladbdpaaGreat
namespace Go.Proofs.YtikaoikladbdpaaGreat
end Go.Proofs.YtikaoikladbdpaaGreat
