/-
  What Min of package skip does: the first item goes off all levels that it is on. Conditions: a list as Skip says. What Level and Items of package skip tell, at every list and at nil: the items of a level, in order, in new memory. Conditions: a list as Skip says. A block of another kind is none of a list's. Conditions: none. What slices.IsSorted tells of numbers, and what heightAt of package skip tells. Conditions: numbers that lie in memory.
-/
import Derived.Test.YtkbhemaijbkpbaaGreatG0616
namespace Go.Proofs.YtkbhemaijbkpbaaGreat
open Go.RowKit

/-- What holds between two levels that the first tower is taken off. -/
structure MinRel (w : World) (p : Nat) (many most : Int) (n : Nd) (ns : List Nd) (k : Nat) (W : World) : Prop where
  hd : Hd W p many most
  tow : ∀ m ∈ n :: ns, Tow W m
  ch : ∀ j, j < 8 → Ch W j p (if j < k then lv ns j else lv (n :: ns) j)
  wr : Wrote (InF p (n :: ns)) w W

section
variable {w W : World} {p : Nat} {many most : Int} {n : Nd} {ns : List Nd} {k : Nat}
theorem MinRel.drew (h : MinRel w p many most n ns k W) : MinRel w p many most n ns k W.drew :=
  ⟨h.hd.keep rfl, fun m hm => (h.tow m hm).keep rfl, fun j hj => (h.ch j hj).keep fun _ _ => rfl, h.wr.drew⟩
theorem MinRel.loads (h : MinRel w p many most n ns k W) (hk : k < 8) (hkn : k < n.h) : W.cell? ⟨p, 2 + k, none⟩ = some (.pointer (some ⟨n.b, 0, none⟩)) ∧ W.cell? ⟨n.b, 2 + k, none⟩ = some (nxv (lv ns k)) := by
  have := h.ch k hk
  rw [if_neg (Nat.lt_irrefl k), lv_in ns hkn] at this
  exact ⟨this.1, (show Ch W k n.b (lv ns k) from this.2).first⟩
theorem MinRel.round (h : MinRel w p many most n ns k W) (hk : k < 8) (hkn : k < n.h) (hnd : (p :: blks (n :: ns)).Nodup) : MinRel w p many most n ns (k + 1) (W.setCell ⟨p, 2 + k, none⟩ (nxv (lv ns k))) := by
  refine ⟨h.hd.set _ k hk _, fun m hm => (h.tow m hm).set _ k _, fun j hj => ?_, h.wr.setCell (.inr (by simp [InF])) _⟩
  have hj0 := h.ch j hj
  by_cases e : j = k
  · subst e
    rw [if_neg (Nat.lt_irrefl j), lv_in ns hkn] at hj0
    rw [if_pos (by omega)]
    have hl := Nodup.level hnd j
    rw [lv_in ns hkn] at hl
    exact hj0.drop hl
  · have hc : (if j < k + 1 then lv ns j else lv (n :: ns) j) = (if j < k then lv ns j else lv (n :: ns) j) := by
      by_cases h1 : j < k
      · rw [if_pos h1, if_pos (by omega)]
      · rw [if_neg h1, if_neg (by omega)]
    rw [hc]
    exact hj0.off (by omega) _
end

/-- A list without its first one. -/
theorem minDid {w W : World} {F : Nat → Prop} {p : Nat} {most : Int} {n : Nd} {ns : List Nd} (m : Skp w p most (n :: ns)) (hF : ∀ g, InF p (n :: ns) g → F g) (h4 : ∀ g, F g → g < w.heap.size)
    (h : MinRel w p ((n :: ns).length : Nat) most n ns n.h W) : DidS F p most (itsOf ns) w (W.setCell ⟨p, 10, none⟩ (.int .i64 (ns.length : Int))) := by
  have hnd := m.bod.nd
  have hsub : ∀ g, InF p ns g → InF p (n :: ns) g := fun g hg => by
    simp only [InF, blks, List.map_cons, List.mem_cons] at hg ⊢
    rcases hg with hg | hg
    · exact .inl hg
    · exact .inr (.inr hg)
  have hb : Bod W p ((n :: ns).length : Nat) most ns := by
    refine ⟨h.hd, fun m hm => h.tow m (List.mem_cons_of_mem _ hm), fun j hj => ?_, ?_, fun k hk => m.bod.hs k (List.mem_cons_of_mem _ hk)⟩
    · have := h.ch j hj
      by_cases e : j < n.h
      · rwa [if_pos e] at this
      · rwa [if_neg e, lv_out ns e] at this
    · simp only [blks, List.map_cons, List.nodup_cons, List.mem_cons, not_or] at hnd ⊢
      exact ⟨hnd.1.2, hnd.2.2⟩
  have hso := m.so
  have hlen := m.len
  refine ⟨F, ⟨ns, ⟨hb.count _, ?_, ?_, m.mo⟩, rfl, fun g hg => hF g (hsub g hg), fun g hg => ?_⟩, ?_, Later.refl _ _⟩
  · unfold Rise at *; simp only [List.map_cons, List.pairwise_cons] at hso; exact hso.2
  · simp at hlen; omega
  · have := h4 g hg; have := h.wr.size; simp [World.setCell]; omega
  · have h1 : Wrote F w W := ⟨h.wr.os, h.wr.tape, h.wr.output, h.wr.size, fun k hk hF' => h.wr.block k hk fun e => hF' (hF k e)⟩
    exact h1.setCell (.inr (hF p (by simp [InF]))) _

section
variable {w : World} {F : Nat → Prop} {p : Nat} {most : Int} {l : List It}

theorem minNil (w : World) :
    Calls Tryz.prog 232 #[.pointer none] w fun e w' => e = .returned (.tuple #[.int .i32 0, .bool false]) ∧ w = w' := by
  go_enter Tryz.func232, Tryz.ntmps232
  go_wp2_with (go_at_call 206; refine (lenNil _).mono ?_; rintro e w' ⟨rfl, rfl⟩)
  go_ret2
  exact ⟨rfl, rfl⟩

theorem minNone (h : Skip w F p most []) :
    Calls Tryz.prog 232 #[.pointer (some ⟨p, 0, none⟩)] w fun e w' => e = .returned (.tuple #[.int .i32 0, .bool false]) ∧ w = w' := by
  have L := lenAny h
  clear h
  go_enter Tryz.func232, Tryz.ntmps232
  go_wp2_with (go_at_call 206; refine L.mono ?_; rintro e w' ⟨rfl, rfl⟩)
  go_ret2
  exact ⟨rfl, rfl⟩

set_option maxRecDepth 100000 in
set_option maxHeartbeats 4000000 in
theorem minOk (i : It) (h : Skip w F p most (i :: l)) :
    Calls Tryz.prog 232 #[.pointer (some ⟨p, 0, none⟩)] w fun e w' => e = .returned (.tuple #[.int .i32 i.v, .bool true]) ∧ DidS F p most l w w' := by
  have L := lenAny h
  obtain ⟨ns0, m, hi, h3, h4⟩ := h
  cases ns0 with
  | nil => simp [itsOf] at hi
  | cons n ns =>
  simp only [itsOf, List.map_cons, List.cons.injEq] at hi
  obtain ⟨rfl, hl⟩ := hi
  have hl2 : itsOf ns = l := hl
  subst hl2
  clear hl
  have hlen : (({ v := n.v, h := n.h } : It) :: itsOf ns).length = ns.length + 1 := by simp [itsOf]
  rw [hlen] at L
  have hle := m.len
  have hmo := m.mo
  have hhs := m.bod.hs n (by simp)
  simp only [List.length_cons] at hle
  have hm0 : MinRel w p ((n :: ns).length : Nat) most n ns 0 w := ⟨m.bod.hd, m.bod.tow, fun j hj => by simpa using m.bod.ch j hj, Wrote.refl _ _⟩
  have HQ : Hid (∀ W, MinRel w p ((n :: ns).length : Nat) most n ns n.h W → DidS F p most (itsOf ns) w (W.setCell ⟨p, 10, none⟩ (.int .i64 (ns.length : Int)))) := Lib.hid fun W hW => minDid m h3 h4 hW
  have HN := Lib.hid m.bod.nd
  have c2 := (hm0.loads (by omega) hhs.1).1
  have cv := (hm0.tow n (by simp)).c0
  have c1 := (hm0.tow n (by simp)).c1
  have HM := Lib.hid hm0
  have HH := Lib.hid hhs
  have hz : ((ns.length : Int) + 1 == 0) = false := by simp; omega
  clear m h3 h4 hm0 hlen hhs
  go_enter Tryz.func232, Tryz.ntmps232
  go_wp2_with (go_at_call 206; refine L.mono ?_; rintro e w' ⟨rfl, rfl⟩)
  clear c2 cv c1 L
  go_loopw [19] (fun i wr => ∃ k : Nat, k ≤ n.h ∧ i = .int .i64 k ∧ MinRel w p ((n :: ns).length : Nat) most n ns k wr) (fun i _ => n.h - (intOf i).toNat)
  case atStart => exact ⟨0, Nat.zero_le _, rfl, HM.out⟩
  case round =>
    obtain ⟨k, hk, rfl, hr⟩ := hrel
    clear HM
    by_cases hlt : k < n.h
    · have k8 : k < 8 := by have := HH.out; omega
      have i0 : (0 : Int) ≤ (k : Int) := by omega
      have i8 : (k : Int) < 8 := by omega
      obtain ⟨ca, cb⟩ := hr.loads k8 hlt
      have fp := hr.hd.f (2 + k)
      have HR := Lib.hid (hr.drew.round k8 hlt HN.out)
      clear hr
      obtain ⟨y, hy⟩ := nxv_ptr (lv ns k)
      rw [hy] at HR cb
      clear hy
      generalize hnb : n.b = tb at *
      go_wp2
      go_still_tail 12, (by kernel_rfl)
      have ca1 : wr.drew.cell? ⟨p, 2 + k, none⟩ = some (.pointer (some ⟨tb, 0, none⟩)) := ca
      have fp1 : wr.drew.frozen? ⟨p, 2 + k, none⟩ = false := fp
      change wpList _ _ _ _ _ wr.drew
      clear ca cb fp
      generalize wr.drew = W2 at *
      go_wp2
      go_roundw
      case rel => exact ⟨k + 1, by omega, by go_num, HR.out⟩
      case measure => simp [intOf]; omega
    · obtain rfl : k = n.h := by omega
      have c10 := hr.hd.c10
      have f10 := hr.hd.f 10
      rw [show (((n :: ns).length : Nat) : Int) = (ns.length : Int) + 1 by simp] at c10
      have cv := (hr.tow n (by simp)).c0
      have HR := Lib.hid (HQ.out wr hr)
      have hne : p ≠ n.b := fun e => by
        have := HN.out
        simp only [blks, List.map_cons, List.nodup_cons, List.mem_cons, not_or] at this
        exact this.1.1 e
      have cv2 : (wr.setCell ⟨p, 10, none⟩ (.int .i64 (ns.length : Int))).cell? ⟨n.b, 0, none⟩ = some (.int .i32 n.v) := (World.cell?_of_block (Below.heap_setCell _ _ _ _ (Ne.symm hne))).trans cv
      clear hr HQ hne
      generalize ns.length = m at *
      go_wp2
      go_ret2
      exact ⟨rfl, HR.out⟩

/-- The first one, whether there is one or not. -/
theorem minAny (h : Skip w F p most l) :
    Calls Tryz.prog 232 #[.pointer (some ⟨p, 0, none⟩)] w fun e w' => e = .returned (.tuple #[.int .i32 (l.head?.map It.v |>.getD 0), .bool l.head?.isSome]) ∧ DidS F p most l.tail w w' := by
  cases l with
  | nil => exact (minNone h).mono fun e w' ⟨he, hw⟩ => ⟨he, by subst hw; exact h.did (Below.refl _ _)⟩
  | cons i l => exact minOk i h
end

end Go.Proofs.YtkbhemaijbkpbaaGreat
namespace Go.Proofs.YtkbhemaijbkpbaaGreat
open Go.RowKit Go.Shelf

attribute [local go_sem] Oper.semAt_some

/-- The values of those that are on a level of the model's counting. -/
def zsOf (ns : List Nd) (j : Nat) : List Int := (ns.filter fun n => decide (j < n.h)).map Nd.v

/-- The items of a level. -/
def lvlOf (l : List It) (k : Int) : List Int := (l.filter fun i => decide (1 ≤ k ∧ k ≤ (i.h : Int))).map It.v

theorem zsOf_length (ns : List Nd) (j : Nat) : (zsOf ns j).length = (lv ns j).length := by simp [zsOf, lv]
theorem zsOf_eq (ns : List Nd) (j : Nat) : lvlOf (itsOf ns) ((j : Int) + 1) = zsOf ns j := by
  unfold lvlOf zsOf itsOf
  rw [List.filter_map, List.map_map]
  have : (fun n : Nd => decide (1 ≤ (j : Int) + 1 ∧ (j : Int) + 1 ≤ (n.h : Int))) = fun n => decide (j < n.h) := by
    funext n
    congr 1
    exact propext ⟨fun h => by omega, fun h => by omega⟩
  simp only [Function.comp_def]
  rw [this]
theorem lvlOf_out {l : List It} {k : Int} (h : k < 1 ∨ 8 < k) (hs : ∀ i ∈ l, 1 ≤ i.h ∧ i.h ≤ 8) : lvlOf l k = [] := by
  unfold lvlOf
  rw [List.filter_eq_nil_iff.2 ?_]
  · rfl
  · intro i hi
    have := hs i hi
    simp
    omega

theorem lvAt {ns : List Nd} {j k : Nat} (h : k < (lv ns j).length) : ∃ n ∈ ns, n.b = (lv ns j).getD k 0 ∧ n.v = (zsOf ns j).getD k 0 := by
  have h2 : k < (ns.filter fun n => decide (j < n.h)).length := by simpa [lv] using h
  refine ⟨(ns.filter fun n => decide (j < n.h))[k], (List.mem_filter.1 (List.getElem_mem h2)).1, ?_, ?_⟩
  · simp [lv, List.getD, h2]
  · simp [zsOf, List.getD, h2]

/-- Numbers in new memory. -/
def ToldL (w : World) (zs : List Int) (e : Ending) (w' : World) : Prop :=
  ∃ v, e = .returned v ∧ w'.ownsRow w.heap.size 21 1 v zs.length (zs.map (Value.int .i32)) ∧ Below w.heap.size w w'

/-- What holds between two rounds of Level: the first k items are told. -/
def LvlInv (w : World) (bh q j : Nat) (zs : List Int) (k : Nat) (W : World) : Prop :=
  (∃ v, Boxed W w.heap.size 59 v ∧ W.ownsRow w.heap.size 21 1 v k ((zs.take k).map (Value.int .i32)) ∧ True) ∧ Boxed W bh 163 (.pointer (some ⟨q, 0, none⟩)) ∧ Boxed W (bh + 1) 3 (.int .i64 j) ∧ Below w.heap.size w W

theorem LvlInv.own {w : World} {bh q j : Nat} {zs : List Int} {n : Nat} (hn : w.heap.size ≤ n) : OwnFrom n (LvlInv w bh q j zs) :=
  OwnFrom.and (Own.from (holdsRow_own w.heap.size w.heap.size 59 21 1 (fun k => k) (fun k => (zs.take k).map (Value.int .i32)) (fun _ _ => True)) _)
    (OwnFrom.and (Own.from (boxed_own _ _ _) _) (OwnFrom.and (Own.from (boxed_own _ _ _) _) (ownFrom_below (Nat.le_refl _) hn)))

/-- What a round has left that has appended an item. -/
theorem lvlRound {w W w4 : World} {bh q j k : Nat} {zs : List Int} {y : Int} {tmp : Obj} {v v' : Value}
    (hv : Boxed W w.heap.size 59 v) (hrow : W.ownsRow w.heap.size 21 1 v k ((zs.take k).map (Value.int .i32))) (hbh : Boxed W bh 163 (.pointer (some ⟨q, 0, none⟩))) (hbj : Boxed W (bh + 1) 3 (.int .i64 j)) (hB : Below w.heap.size w W) (hne : w.heap.size < bh)
    (hown : w4.ownsRow w.heap.size 21 1 v' (k + 1) ((zs.take k).map (Value.int .i32) ++ [.int .i32 y])) (hg : (W.alloc tmp).grownBy w4 v.ownBlock) (hk : k < zs.length) (hy : y = zs.getD k 0) :
    Boxed w4 w.heap.size 59 v ∧ KeepsOthers W (w4.setCell ⟨w.heap.size, 0, none⟩ v') ∧ LvlInv w bh q j zs (k + 1) (w4.setCell ⟨w.heap.size, 0, none⟩ v') := by
  obtain ⟨a1, a2, a3, a4, a5⟩ := hv.appended (by decide) hrow hB.size (Nat.le_refl _) hown hg
  have e1 : Boxed w4 bh 163 (.pointer (some ⟨q, 0, none⟩)) := (hbh.alloc tmp).kept hg (hbh.not_row (by decide) hrow)
  have e2 : Boxed w4 (bh + 1) 3 (.int .i64 j) := (hbj.alloc tmp).kept hg (hbj.not_row (by decide) hrow)
  refine ⟨a1, a4, ⟨v', a2, ?_, trivial⟩, e1.other (by omega) _, e2.other (by omega) _, hB.trans a5⟩
  have ht : (zs.take (k + 1)).map (Value.int .i32) = (zs.take k).map (Value.int .i32) ++ [.int .i32 y] := by
    rw [List.take_succ_eq_append_getElem hk, List.map_append, hy]
    simp [List.getD, hk]
  rw [ht]
  exact a3

theorem levelBoxes (w : World) (p j : Nat) :
    Boxed (((w.alloc (.cells #[.slice none 0 0] 59)).alloc (.cells #[.pointer (some ⟨p, 0, none⟩)] 163)).alloc (.cells #[.int .i64 j] 3)) w.heap.size 59 (.slice none 0 0) ∧ Boxed (((w.alloc (.cells #[.slice none 0 0] 59)).alloc (.cells #[.pointer (some ⟨p, 0, none⟩)] 163)).alloc (.cells #[.int .i64 j] 3)) (w.heap.size + 1) 163 (.pointer (some ⟨p, 0, none⟩)) ∧ Boxed (((w.alloc (.cells #[.slice none 0 0] 59)).alloc (.cells #[.pointer (some ⟨p, 0, none⟩)] 163)).alloc (.cells #[.int .i64 j] 3)) (w.heap.size + 1 + 1) 3 (.int .i64 j) ∧ Below w.heap.size w (((w.alloc (.cells #[.slice none 0 0] 59)).alloc (.cells #[.pointer (some ⟨p, 0, none⟩)] 163)).alloc (.cells #[.int .i64 j] 3)) := by
  have b0 := ((Boxed.new w 59 (.slice none 0 0)).alloc (.cells #[.pointer (some ⟨p, 0, none⟩)] 163)).alloc (.cells #[.int .i64 j] 3)
  have b1 := (Boxed.new (w.alloc (.cells #[.slice none 0 0] 59)) 163 (.pointer (some ⟨p, 0, none⟩))).alloc (.cells #[.int .i64 j] 3)
  have b2 := Boxed.new ((w.alloc (.cells #[.slice none 0 0] 59)).alloc (.cells #[.pointer (some ⟨p, 0, none⟩)] 163)) 3 (.int .i64 j)
  rw [World.size_alloc] at b1
  rw [World.size_alloc, World.size_alloc] at b2
  exact ⟨b0, b1, b2, (((Below.refl _ w).alloc (Nat.le_refl _) _).alloc (by simp) _).alloc (by simp; omega) _⟩

theorem lvlStart {w W : World} {p j : Nat} (h : Boxed W w.heap.size 59 (.slice none 0 0) ∧ Boxed W (w.heap.size + 1) 163 (.pointer (some ⟨p, 0, none⟩)) ∧ Boxed W (w.heap.size + 1 + 1) 3 (.int .i64 j) ∧ Below w.heap.size w W) (zs : List Int) : LvlInv w (w.heap.size + 1) p j zs 0 W :=
  ⟨⟨_, h.1, by simpa using World.ownsRow_nil W w.heap.size 21 1, trivial⟩, h.2.1, h.2.2.1, h.2.2.2⟩

section
variable {w : World} {F : Nat → Prop} {p : Nat} {most : Int} {l : List It}

theorem levelOut (p : Nat) (w : World) (k : Int) (h : k < 1 ∨ 8 < k) :
    Calls Tryz.prog 207 #[.pointer (some ⟨p, 0, none⟩), .int .i64 k] w fun e w' => e = .returned (.slice none 0 0) ∧ w = w' := by
  rcases h with h | h
  · refine (callsIn_wide (n := 3)).1 ?_
    refine callsIn_of_wp_marks Tryz.func207 rfl trivial ?_ rfl
    simp only [Tryz.ntmps207, List.size_toArray, List.length_cons, List.length_nil, Nat.reduceAdd, Nat.reduceSub, Array.replicate_succ, Array.replicate_zero, List.push_toArray, List.append_toArray, List.nil_append, List.cons_append]
    gi_wp2
    exact ⟨_, results_tmp rfl _ _ _, rfl, rfl⟩
  · have h1 : ¬ k < 1 := by omega
    refine (callsIn_wide (n := 3)).1 ?_
    refine callsIn_of_wp_marks Tryz.func207 rfl trivial ?_ rfl
    simp only [Tryz.ntmps207, List.size_toArray, List.length_cons, List.length_nil, Nat.reduceAdd, Nat.reduceSub, Array.replicate_succ, Array.replicate_zero, List.push_toArray, List.append_toArray, List.nil_append, List.cons_append]
    gi_wp2
    exact ⟨_, results_tmp rfl _ _ _, rfl, rfl⟩

set_option maxRecDepth 100000 in
set_option maxHeartbeats 4000000 in
theorem levelIn (h : Skip w F p most l) (j : Nat) (hj : j < 8) :
    Calls Tryz.prog 207 #[.pointer (some ⟨p, 0, none⟩), .int .i64 ((j : Int) + 1)] w (ToldL w (lvlOf l ((j : Int) + 1))) := by
  obtain ⟨ns, m, rfl, _⟩ := h
  rw [zsOf_eq]
  have hzl := zsOf_length ns j
  have HM := Lib.hid m
  obtain ⟨i0, hi, hz0, hz1, hz2⟩ := info_parts infoI32
  have hn : (lv ns j).length ≤ 1000 := by
    have h1 := (lv_sub ns j).length_le
    have h2 := m.len
    have h3 := m.mo
    simp [blks] at h1
    omega
  have j1 : ¬ (j : Int) + 1 < 1 := by omega
  have j8 : ¬ 8 < (j : Int) + 1 := by omega
  have je : (j : Int) + 1 - 1 = j := by omega
  have hmx : Tryz.prog.follows .mixedOrders = true := by kernel_rfl
  clear m
  refine (callsIn_wide (n := 3)).1 ?_
  refine callsIn_of_wp_marks Tryz.func207 rfl trivial ?_ rfl
  simp only [Tryz.ntmps207, List.size_toArray, List.length_cons, List.length_nil, Nat.reduceAdd, Nat.reduceSub, Array.replicate_succ, Array.replicate_zero, List.push_toArray, List.append_toArray, List.nil_append, List.cons_append]
  gi_wp2_with (refine ⟨trivial, ?_⟩; gi_at_call 208; refine (callsIn_wide.2 (behindAny _ _ _)).mono ?_; rintro e w2 ⟨rfl, rfl⟩)
  have HW1 := Lib.hid (levelBoxes w p j)
  generalize (((w.alloc (.cells #[.slice none 0 0] 59)).alloc (.cells #[.pointer (some ⟨p, 0, none⟩)] 163)).alloc (.cells #[.int .i64 j] 3)) = W1 at *
  have hsz : w.heap.size ≤ W1.heap.size := HW1.out.2.2.2.size
  refine wpIn_rangeStops rfl (by omega) (gf := 209) (lb := #[.pointer (some ⟨w.heap.size + 1, 0, none⟩), .pointer (some ⟨w.heap.size + 1 + 1, 0, none⟩)]) rfl trivial (enters_of Tryz.func209 (by kernel_rfl) rfl) (towV (lv ns j)) (fun _ => rfl) (lv ns j).length 0
    (LvlInv w (w.heap.size + 1) p j (zsOf ns j)) (fun _ _ => False)
    (behindSeq (3 - 1) hj (List.nodup_cons.1 (Nodup.level HM.out.bod.nd j)).2 _ (fun k W h => ⟨h.2.1.cell, h.2.2.1.cell, (HM.out.bod.below h.2.2.2).ch j hj⟩)) (LvlInv.own hsz) (fun _ _ _ _ h _ _ => h) (lvlStart HW1.out _)
    (fun k => { tmps := #[.pointer (some ⟨p, 0, none⟩), .int .i64 ((j : Int) + 1), undef, undef, .slice none 0 0, .pointer (some ⟨w.heap.size, 0, none⟩), .pointer (some ⟨(lv ns j).getD k 0, 0, none⟩), .pointer (some ⟨p, 0, none⟩), .bool false, .bool false, .int .i64 ((j : Int) + 1), .bool false, .bool false, .bool false, .int .i64 ((j : Int) + 1), .bool false, .bool false, .pointer (some ⟨p, 0, none⟩), .pointer (some ⟨p, 0, none⟩), .pointer (some ⟨p, 0, none⟩), .int .i64 ((j : Int) + 1), .int .i64 j, .func (.func 209) #[] #[.pointer (some ⟨w.heap.size + 1, 0, none⟩), .pointer (some ⟨w.heap.size + 1 + 1, 0, none⟩)], .pointer (some ⟨(lv ns j).getD k 0, 0, none⟩), undef, undef, undef, undef, undef, undef, undef, undef], defers := [] }) ?assign ?body ?done ?stop
  case assign =>
    intro l k W K hK
    simp only [towV]
    gi_wp2
    exact hK
  case body =>
    rintro l k W ⟨⟨v, hv, hrow, _⟩, hbh, hbj, hB⟩ hlt
    obtain ⟨ao, cap, rfl⟩ := ownShape hrow
    obtain ⟨n, hn1, hnb, hnv⟩ := lvAt hlt
    have cx := ((HM.out.bod.below hB).tow n hn1).c0
    have hxl : n.b < w.heap.size := HM.out.bod.lt n.b (List.mem_cons_of_mem _ (List.mem_map_of_mem hn1))
    rw [hnb] at cx hxl
    have HXlt := Lib.hid (show (lv ns j).getD k 0 ≠ w.heap.size by omega)
    have HXo := Lib.hid hxl
    have HYv := Lib.hid hnv
    have HZ := Lib.hid (show k < (zsOf ns j).length by rw [hzl]; exact hlt)
    have HM1 := Lib.hid (show k + 1 ≤ maxLen by simp only [maxLen]; omega)
    have HM2 := Lib.hid (show (k + 1) * 4 ≤ 140737488355328 by omega)
    have HV := Lib.hid hv
    have HRow := Lib.hid hrow
    have HBh := Lib.hid hbh
    have HBj := Lib.hid hbj
    have HB := Lib.hid hB
    have cl := hv.cell
    have fl := hv.frozen
    have cla := (hv.alloc (.cells #[.int .i32 n.v] 21)).cell
    generalize (lv ns j).getD k 0 = x at *
    generalize n.v = y at *
    have cxa : (W.drew.alloc (.cells #[.int .i32 y] 21)).cell? ⟨x, 0, none⟩ = some (.int .i32 y) := by rw [World.cell?_alloc_lt _ _ _ (show x < W.drew.heap.size from Nat.lt_of_lt_of_le hxl hB.size)]; exact cx
    have HX4 : Hid (∀ (w4 : World) (v' : Value), (Boxed w4 w.heap.size 59 (.slice ao k cap) ∧ KeepsOthers W (w4.setCell ⟨w.heap.size, 0, none⟩ v') ∧ LvlInv w (w.heap.size + 1) p j (zsOf ns j) (k + 1) (w4.setCell ⟨w.heap.size, 0, none⟩ v')) → w4.cell? ⟨x, 0, none⟩ = some (.int .i32 y)) := Lib.hid fun w4 v' h => by
      have h1 := (h.2.2.2.2.2.cell (p := ⟨x, 0, none⟩) HXo.out).trans ((hB.cell (p := ⟨x, 0, none⟩) HXo.out).symm.trans cx)
      rwa [World.cell?_of_block (a := ⟨x, 0, none⟩) (Below.heap_setCell _ _ _ _ HXlt.out)] at h1
    clear hv hrow hbh hbj hB hlt hn1 hnb hnv hxl hn j1 j8
    gi_wp2
    refine wpIn_region_round (S := fun w' => w'.cell? ⟨x, 0, none⟩ = some (.int .i32 y)) hmx (fun ⟨_, _, h⟩ => h) (by rfl) cx (fun hS => ?_)
    refine wpAnyH_take (i := 1) (v := ?_) rfl (by kernel_rfl) (by kernel_rfl) (by kernel_rfl) (fun _ _ _ h => h) (Or.inl ⟨by rfl, ?_⟩) hS ?_
    rotate_left
    · intro w hSw
      try dsimp only at hSw
      go_simp
      try with_reducible rfl
    try simp only [Act.put, List.setIfInBounds_toArray]
    refine wpAnyH_take (i := 2) (v := ?_) rfl (by kernel_rfl) (by kernel_rfl) (by kernel_rfl) (fun _ _ _ h => h) (Or.inl ⟨by rfl, ?_⟩) hS ?_
    rotate_left
    · intro w hSw
      try dsimp only at hSw
      go_simp
      try with_reducible rfl
    try simp only [Act.put]
    refine wpAnyH_take (i := 3) (v := ?_) rfl (by kernel_rfl) (by kernel_rfl) (by kernel_rfl) (fun _ _ _ h => h) (Or.inl ⟨by rfl, ?_⟩) hS ?_
    rotate_left
    · intro w hSw
      try dsimp only at hSw
      go_simp
      try with_reducible rfl
    try simp only [Act.put]
    refine wpAnyH_take (i := 4) (v := ?_) rfl (by kernel_rfl) (by kernel_rfl) (by kernel_rfl) (fun _ _ _ h => h) (Or.inl ⟨by rfl, ?_⟩) hS ?_
    rotate_left
    · intro w hSw
      try dsimp only at hSw
      go_simp
      try with_reducible rfl
    try simp only [Act.put]
    refine wpAnyH_ready (rs := [0, 5]) (by kernel_rfl) (by simp) ?_
    refine AllReadyH.cons rfl (fun K hK => ?_) ?_
    · go_simp
      refine hK.out _ _ (by first | exact cx | exact cxa) (fun hS => ?_)
      clear hK K
      refine wpAnyH_ready (rs := [5]) (by kernel_rfl) (by simp) ?_
      refine AllReadyH.cons rfl (fun K hK => ?_) ?_
      · go_simp
        refine hK.out _ _ (by first | exact cx | exact cxa) (fun hS => ?_)
        clear hK K
        refine wpAnyH_ready (rs := [6]) (by kernel_rfl) (by simp) ?_
        refine AllReadyH.cons rfl (fun K hK => ?_) ?_
        · refine step_append_own _ rfl _ _ 59 rfl w.heap.size 21 i0 _ 1 4 Tryz.underlying59 hi hz0 hz1 hz2 rfl (by decide) (.slice ao k cap) k _ rfl (HRow.out.alloc _) ⟨W.heap.size, 0, none⟩ 1 1 [.int .i32 y] rfl rfl (by intro j u hu; cases j <;> simp at hu; subst hu; go_simp) (by intro u hu; simp at hu; subst hu; rfl) HM1.out HM2.out (Nat.le_trans HB.out.size (by simp)) ?_
          intro v' w4 hown' hgrow
          obtain ⟨g', cap', rfl⟩ := ownsRow_succ hown'
          have HA := Lib.hid (lvlRound HV.out HRow.out HBh.out HBj.out HB.out (Nat.lt_succ_self _) hown' (tmp := .cells #[.int .i32 y] 21) ⟨hgrow.os, hgrow.tape, hgrow.output, hgrow.size, hgrow.block⟩ HZ.out HYv.out)
          have k4 := HA.out.1.cell
          have f4 := HA.out.1.frozen
          have cx4 : w4.cell? ⟨x, 0, none⟩ = some (.int .i32 y) := HX4.out _ _ HA.out
          have cx5 : (w4.setCell ⟨w.heap.size, 0, none⟩ (.slice (some ⟨g', 0, none⟩) (k + 1) cap')).cell? ⟨x, 0, none⟩ = some (.int .i32 y) := (World.cell?_of_block (Below.heap_setCell _ _ _ _ HXlt.out)).trans cx4
          refine hK.out _ _ cx4 (fun hS => ?_)
          clear hK K
          refine wpAnyH_ready (rs := [7]) (by kernel_rfl) (by simp) ?_
          refine AllReadyH.cons rfl (fun K hK => ?_) ?_
          · go_simp
            refine hK.out _ _ cx5 (fun hS => ?_)
            clear hK K
            refine wpAnyH_done (by kernel_rfl) ?_ _
            gi_wp2
            exact ⟨HA.out.2.1.from _, HA.out.2.2⟩
          exact AllReadyH.nil
        exact AllReadyH.nil
      exact AllReadyH.nil
    refine AllReadyH.cons rfl (fun K hK => ?_) ?_
    · go_simp
      refine hK.out _ _ (by first | exact cx | exact cxa) (fun hS => ?_)
      clear hK K
      refine wpAnyH_ready (rs := [0]) (by kernel_rfl) (by simp) ?_
      refine AllReadyH.cons rfl (fun K hK => ?_) ?_
      · go_simp
        refine hK.out _ _ (by first | exact cx | exact cxa) (fun hS => ?_)
        clear hK K
        refine wpAnyH_ready (rs := [6]) (by kernel_rfl) (by simp) ?_
        refine AllReadyH.cons rfl (fun K hK => ?_) ?_
        · refine step_append_own _ rfl _ _ 59 rfl w.heap.size 21 i0 _ 1 4 Tryz.underlying59 hi hz0 hz1 hz2 rfl (by decide) (.slice ao k cap) k _ rfl (HRow.out.alloc _) ⟨W.heap.size, 0, none⟩ 1 1 [.int .i32 y] rfl rfl (by intro j u hu; cases j <;> simp at hu; subst hu; go_simp) (by intro u hu; simp at hu; subst hu; rfl) HM1.out HM2.out (Nat.le_trans HB.out.size (by simp)) ?_
          intro v' w4 hown' hgrow
          obtain ⟨g', cap', rfl⟩ := ownsRow_succ hown'
          have HA := Lib.hid (lvlRound HV.out HRow.out HBh.out HBj.out HB.out (Nat.lt_succ_self _) hown' (tmp := .cells #[.int .i32 y] 21) ⟨hgrow.os, hgrow.tape, hgrow.output, hgrow.size, hgrow.block⟩ HZ.out HYv.out)
          have k4 := HA.out.1.cell
          have f4 := HA.out.1.frozen
          have cx4 : w4.cell? ⟨x, 0, none⟩ = some (.int .i32 y) := HX4.out _ _ HA.out
          have cx5 : (w4.setCell ⟨w.heap.size, 0, none⟩ (.slice (some ⟨g', 0, none⟩) (k + 1) cap')).cell? ⟨x, 0, none⟩ = some (.int .i32 y) := (World.cell?_of_block (Below.heap_setCell _ _ _ _ HXlt.out)).trans cx4
          refine hK.out _ _ cx4 (fun hS => ?_)
          clear hK K
          refine wpAnyH_ready (rs := [7]) (by kernel_rfl) (by simp) ?_
          refine AllReadyH.cons rfl (fun K hK => ?_) ?_
          · go_simp
            refine hK.out _ _ cx5 (fun hS => ?_)
            clear hK K
            refine wpAnyH_done (by kernel_rfl) ?_ _
            gi_wp2
            exact ⟨HA.out.2.1.from _, HA.out.2.2⟩
          exact AllReadyH.nil
        exact AllReadyH.nil
      exact AllReadyH.nil
    exact AllReadyH.nil
  case done =>
    rintro D W hD ⟨⟨v, hv, hrow, _⟩, hbh, hbj, hB⟩ hK
    obtain ⟨ao, cap, rfl⟩ := ownShape hrow
    have cl := hv.cell
    have HRow := Lib.hid hrow
    have HB := Lib.hid hB
    have HD := Lib.hid (Nat.le_trans hsz hD)
    clear hv hrow hbh hbj hB hD
    gi_wp2
    refine ⟨by simp, .inl ⟨_, _, rfl, run_takeDeferred hK, ?_⟩⟩
    refine ⟨_, results_tmp rfl _ _ _, _, rfl, ?_, HB.out.trans (Turned.put HD.out hK).below⟩
    have h1 := HRow.out
    rw [List.take_of_length_le (Nat.le_of_eq hzl)] at h1
    rw [hzl]
    exact ownsRow_putObj h1 _ hK rfl
  case stop =>
    rintro D k W _ _ h _
    exact h.elim

/-- A level, whichever it is. -/
theorem levelAny (h : Skip w F p most l) (k : Int) :
    Calls Tryz.prog 207 #[.pointer (some ⟨p, 0, none⟩), .int .i64 k] w (ToldL w (lvlOf l k)) := by
  by_cases hk : k < 1 ∨ 8 < k
  · rw [lvlOf_out hk h.hs]
    exact (levelOut p w k hk).mono fun e w' ⟨he, hw⟩ => by
      subst hw
      exact ⟨_, he, by simpa using World.ownsRow_nil w w.heap.size 21 1, Below.refl _ _⟩
  · have := levelIn h (k - 1).toNat (by omega)
    rwa [show (((k - 1).toNat : Nat) : Int) + 1 = k by omega] at this

theorem lvlOf_one (hs : ∀ i ∈ l, 1 ≤ i.h ∧ i.h ≤ 8) : lvlOf l 1 = l.map It.v := by
  unfold lvlOf
  rw [List.filter_eq_self.2]
  intro i hi
  have := hs i hi
  simp
  omega

theorem itemsAny (h : Skip w F p most l) :
    Calls Tryz.prog 205 #[.pointer (some ⟨p, 0, none⟩)] w (ToldL w (l.map It.v)) := by
  have C := levelAny h 1
  rw [lvlOf_one h.hs] at C
  clear h
  go_enter Tryz.func205, Tryz.ntmps205
  go_wp2_with fail
  refine C.mono ?_
  clear C
  intro e w2 ht
  have HT := Lib.hid ht
  obtain ⟨v, he, hrow, _⟩ := ht
  obtain ⟨ao, cap, rfl⟩ := ownShape hrow
  subst he
  clear hrow
  generalize (l.map It.v).length = nn at *
  go_wp2
  go_ret
  exact HT.out

end

end Go.Proofs.YtkbhemaijbkpbaaGreat
namespace Go.Proofs.YtkbhemaijbkpbaaGreat
open Go.RowKit Go.Lib

/-- A block that holds something else is none of a list's. -/
theorem Bod.notIn {W : World} {p : Nat} {many most : Int} {ns : List Nd} (h : Bod W p many most ns) {b : Nat} {cs : Array Value} {t : TypeId} {f : Nat × Nat} (hb : W.heap[b]? = some (.cells cs t f)) (h1 : t ≠ 168) (h2 : t ≠ 166) : ¬ InF p ns b := fun hi => by
  rcases List.mem_cons.1 hi with e | e
  · obtain ⟨cs', hc, _⟩ := h.hd
    rw [← e, hb] at hc
    injection hc with hc
    injection hc with _ hc
    exact h1 hc
  · obtain ⟨n, hn, e⟩ := List.mem_map.1 e
    obtain ⟨cs', hc, _⟩ := h.tow n hn
    rw [e, hb] at hc
    injection hc with hc
    injection hc with _ hc
    exact h2 hc


end Go.Proofs.YtkbhemaijbkpbaaGreat
namespace Go.Proofs.YtkbhemaijbkpbaaGreat
open Go.RowKit

/-- None is less than the one ahead of it, of the first n. -/
def Adj (xs : List Int) : Prop := ∀ k, 0 < k → k < xs.length → xs.getD (k - 1) 0 ≤ xs.getD k 0

def adjB (xs : List Int) : Bool := (List.range xs.length).all fun k => decide (k = 0 ∨ xs.getD (k - 1) 0 ≤ xs.getD k 0)
theorem adjB_iff (xs : List Int) : adjB xs = true ↔ Adj xs := by
  unfold adjB Adj
  simp only [List.all_eq_true, List.mem_range, decide_eq_true_eq]
  exact ⟨fun h k h1 h2 => (h k h2).resolve_left (by omega), fun h k h2 => by
    by_cases e : k = 0
    · exact .inl e
    · exact .inr (h k (by omega) h2)⟩
theorem adjB_no {xs : List Int} (h : ¬ Adj xs) : adjB xs = false := by
  cases e : adjB xs with
  | false => rfl
  | true => exact absurd ((adjB_iff xs).1 e) h

theorem nanAny (w : World) (x : Int) : Calls Tryz.prog 243 #[.int .i32 x] w fun e w' => e = .returned (.bool false) ∧ w = w' := by
  go_enter Tryz.func243, Tryz.ntmps243
  go_wp2
  go_ret
  exact ⟨rfl, rfl⟩

theorem lessAny (w : World) (x y : Int) : Calls Tryz.prog 237 #[.int .i32 x, .int .i32 y] w fun e w' => e = .returned (.bool (decide (x < y))) ∧ w' = w := by
  go_enter Tryz.func237, Tryz.ntmps237
  go_wp2_with (go_at_call 243; refine (nanAny _ _).mono ?_; rintro e w' ⟨rfl, rfl⟩)
  go_ret
  exact ⟨rfl, rfl⟩

theorem heightIn (w : World) (ao : Option Addr) (n cap k : Nat) (hs : List Int) (h : Reads .i64 w ao n hs) :
    Calls Tryz.prog 230 #[.slice ao n cap, .int .i64 k] w fun e w' => e = .returned (.int .i64 (hs.getD k 1)) ∧ w' = w := by
  have hl := h.1
  by_cases hk : k < n
  · obtain ⟨b, off, rfl, hb, hc⟩ := h.2 (by omega)
    have c := hc k hk
    rw [show hs.getD k 0 = hs.getD k 1 by simp [List.getD, show k < hs.length by omega]] at c
    have k0 : (0 : Int) ≤ (k : Int) := by omega
    have hd : ¬ (n : Int) ≤ k := by omega
    clear h hc
    generalize hs.getD k 1 = y at *
    go_enter Tryz.func230, Tryz.ntmps230
    go_wp2
    go_ret
    exact ⟨rfl, rfl⟩
  · rw [show hs.getD k 1 = 1 by simp [List.getD, show hs.length ≤ k by omega]]
    have hd : ¬ (k : Int) < n := by omega
    clear h
    go_enter Tryz.func230, Tryz.ntmps230
    go_wp2
    go_ret
    exact ⟨rfl, rfl⟩

/-- From number i on none is less than the one ahead of it. -/
def AdjFrom (xs : List Int) (i : Nat) : Prop := ∀ k, i < k → k < xs.length → xs.getD (k - 1) 0 ≤ xs.getD k 0

theorem Reads.drewN {k : IntKind} {w : World} {ao : Option Addr} {len : Nat} {zs : List Int} (h : Reads k w ao len zs) (q : Nat) : Reads k (w.drewN q) ao len zs := h

set_option maxRecDepth 100000 in
set_option maxHeartbeats 2000000 in
theorem sortedAny (w : World) (ao : Option Addr) (n cap : Nat) (xs : List Int) (h : Reads .i32 w ao n xs) (hn : n ≤ 1000000) :
    Calls Tryz.prog 227 #[.slice ao n cap] w fun e w' => e = .returned (.bool (adjB xs)) ∧ ∃ q, w' = w.drewN q := by
  have hl := h.1
  by_cases h0 : n = 0
  · have HE := Lib.hid (show adjB xs = true from (adjB_iff xs).2 (fun k h1 h2 => by omega))
    subst h0
    clear h
    go_enter Tryz.func227, Tryz.ntmps227
    go_wp2
    go_loopw [3] (fun i wr => i = .int .i64 (-1) ∧ wr = w) (fun _ _ => 0)
    case atStart => exact ⟨rfl, rfl⟩
    case round =>
      obtain ⟨rfl, rfl⟩ := hrel
      go_wp2
      go_ret
      rw [HE.out]
      exact ⟨rfl, 0, rfl⟩
  · obtain ⟨b, off, rfl, hb, hc⟩ := h.2 (by omega)
    have HC := Lib.hid hc
    have HL := Lib.hid hl
    have HS := Lib.hid (show AdjFrom xs (n - 1) from fun k h1 h2 => by omega)
    obtain ⟨m, rfl⟩ : ∃ m, n = m + 1 := ⟨n - 1, by omega⟩
    clear h hc hl h0
    go_enter Tryz.func227, Tryz.ntmps227
    go_wp2
    go_loopw [3] (fun i wr => ∃ j : Nat, j ≤ m ∧ i = .int .i64 j ∧ AdjFrom xs j ∧ ∃ q, wr = w.drewN q) (fun i _ => (intOf i).toNat)
    case atStart => exact ⟨m, Nat.le_refl _, by simp, HS.out, 0, rfl⟩
    case round =>
      obtain ⟨j, hj, rfl, ha, q, rfl⟩ := hrel
      clear HS
      by_cases hp : 0 < j
      · have cj : (w.drewN q).cell? ⟨b, off + j, none⟩ = some (.int .i32 (xs.getD j 0)) := HC.out j (by omega)
        have ci : (w.drewN q).cell? ⟨b, off + (j - 1), none⟩ = some (.int .i32 (xs.getD (j - 1) 0)) := HC.out (j - 1) (by omega)
        have HA := Lib.hid ha
        have HD : Hid ((xs.getD j 0 < xs.getD (j - 1) 0 → adjB xs = false) ∧ (¬ xs.getD j 0 < xs.getD (j - 1) 0 → AdjFrom xs (j - 1))) := Lib.hid ⟨fun h => adjB_no (fun h2 => by have := h2 j hp (by rw [HL.out]; omega); omega), fun h k h1 h2 => by
          by_cases e : k = j
          · subst e; omega
          · exact ha k (by omega) h2⟩
        obtain ⟨i, hi⟩ : ∃ i, i = j - 1 := ⟨_, rfl⟩
        rw [← hi] at ci HD
        have e1 : ((j : Int) - 1) = (i : Int) := by omega
        have e2 : IntKind.i64.wrap ((j : Int) - 1) = (i : Int) := by rw [IntKind.wrap_i64]; omega
        have j0 : (0 : Int) ≤ (j : Int) := by omega
        have i0 : (0 : Int) ≤ (i : Int) := by omega
        have jm : (j : Int) < (m : Int) + 1 := by omega
        have im : (i : Int) < (m : Int) + 1 := by omega
        have HI := Lib.hid hi
        clear ha hi
        obtain ⟨W, hW⟩ : ∃ W, w.drewN q = W := ⟨_, rfl⟩
        rw [hW] at cj ci ⊢
        have HW := Lib.hid hW
        clear hW
        by_cases hlt : xs.getD j 0 < xs.getD (j - 1) 0
        · rw [← HI.out] at hlt
          have HE := Lib.hid (HD.out.1 hlt)
          clear HD
          generalize xs.getD j 0 = y at *
          generalize xs.getD i 0 = z at *
          go_wp2
          go_quiet ((go_at_call 237; exact Calls.quiet_of_same (lessAny _ _ _)))
          go_wp2
          go_ret
          rw [HE.out]
          exact ⟨rfl, q + nq, by rw [← HW.out]; exact World.drewN_drewN _ _ _⟩
        · rw [← HI.out] at hlt
          have HE := Lib.hid (HD.out.2 hlt)
          clear HD
          generalize xs.getD j 0 = y at *
          generalize xs.getD i 0 = z at *
          go_wp2
          go_quiet ((go_at_call 237; exact Calls.quiet_of_same (lessAny _ _ _)))
          go_wp2
          go_roundw
          case rel => exact ⟨i, by have := HI.out; omega, rfl, HE.out, q + nq, by rw [← HW.out]; exact World.drewN_drewN _ _ _⟩
          case measure => have := HI.out; simp [intOf]; omega
      · obtain rfl : j = 0 := by omega
        have HE := Lib.hid (show adjB xs = true from (adjB_iff xs).2 (fun k h1 h2 => ha k h1 h2))
        clear ha
        go_wp2
        go_ret
        rw [HE.out]
        exact ⟨rfl, q, rfl⟩

end Go.Proofs.YtkbhemaijbkpbaaGreat
