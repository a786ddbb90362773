/-
  What Spared of package ends answers, and the chapter's example. Conditions: operations that lie in memory, at most a million. metOf of package ends: which operations are pushes that a pop meets. Conditions: a row that says whom each of at most a million meets. What Do of package ring does at nil; a deque or none. Conditions: a deque as Rng says. What come of package ends tells, and leaves, at every deque and at nil: as one by one. Conditions: a deque as RngO says; rows that say who meets whom, and codes; operations that lie in memory, beside it, at most a million. What Apply of package ends tells, and leaves, at every deque and at nil: as one by one. Conditions: a deque as RngO says; operations that lie in memory, beside it, at most a million. What an object makes of a batch, in plain lists: one state for each of the three kinds; the stack's and the deque's own words for it. Conditions: none; no Go function is looked at here. What a batch tells, and leaves, is within the bounds of a code and of a value, in plain lists. Conditions: items, and operations, within theirs. Maps that the call makes, with keys of one byte. Conditions: none. holders of package object: a map of functions that make an empty holder each. Conditions: none. What Copy of package skip makes: a list of its own with the same items, at every list and at nil. Conditions: a list as Skip says. What a coin of package coin is in the model's world, and what New, Left, Toss, Height and Copy do, at every coin and at nil. Conditions: a coin as Coin says. What Height and Copy of package coin do, at every coin and at nil. Conditions: a coin as Coin says. What Feed of package coin does, at every coin and at nil. Conditions: a coin as Coin says; at most a million bytes, none of which lies in the coin's own memory.
-/
import Derived.Test.YtikaoikladbdpaaGreatG1416
import Derived.Test.YtikaoikladbdpaaGreatG1316
import Derived.Test.YtikaoikladbdpaaGreatG0816
import Derived.Test.YtikaoikladbdpaaGreatG1116
import Derived.Test.YtikaoikladbdpaaGreatG0316
import Derived.MapKept
import Derived.Carry
import Derived.WalkMore
import Derived.Deep.LoopGhost
import Derived.Laws.BitsAllLaws
namespace Go.Proofs.YtikaoikladbdpaaGreat.D10
open Go.RowKit

end Go.Proofs.YtikaoikladbdpaaGreat.D10
namespace Go.Proofs.YtikaoikladbdpaaGreat.D10
open Go.RowKit

def metRow (ps : List Int) (n k : Nat) : List Bool := (List.range n).map fun j : Nat => decide ((j : Int) ∈ ps.take k)
section
variable {ps : List Int} {n k : Nat}
theorem metRow_length : (metRow ps n k).length = n := by simp [metRow]
theorem metRow_none : metRow ps n 0 = List.replicate n false := by simp [metRow, List.map_const']
theorem take_next (hk : k < ps.length) : ps.take (k + 1) = ps.take k ++ [ps.getD k 0] := by
  rw [List.take_succ_eq_append_getElem hk]; simp [List.getD, hk]
theorem metRow_old (hk : k < ps.length) (e : ps.getD k 0 = -1) : metRow ps n (k + 1) = metRow ps n k := by
  unfold metRow
  refine List.map_congr_left fun j _ => ?_
  rw [take_next hk, e]
  simp only [List.mem_append, List.mem_singleton, decide_eq_decide]
  exact ⟨fun h => h.elim id (fun h => by omega), .inl⟩
theorem metRow_put (hk : k < ps.length) {m : Nat} (e : ps.getD k 0 = m) : (metRow ps n k).set m true = metRow ps n (k + 1) := by
  refine List.ext_getElem (by simp [metRow_length]) fun i h1 h2 => ?_
  rw [List.getElem_set]
  simp only [metRow, List.getElem_map, List.getElem_range, take_next hk, e, List.mem_append, List.mem_singleton]
  split
  · rename_i h; subst h; simp
  · rename_i h
    simp only [decide_eq_decide]
    exact ⟨.inl, fun h => h.elim id (fun h => by omega)⟩
theorem metRow_at {j : Nat} (h : j < n) (hl : ps.length = n) : (metRow ps n n).getD j false = metB ps j := by
  simp [metRow, metB, List.getD, h, List.take_of_length_le (Nat.le_of_eq hl)]
end

set_option maxRecDepth 100000 in
set_option maxHeartbeats 3200000 in
theorem metOfAny (w : World) (gw n : Nat) (ps : List Int) (hr : Rw w gw .i64 3 ps) (hl : ps.length = n) (hp : ∀ k, k < n → -1 ≤ ps.getD k 0 ∧ ps.getD k 0 < n) (hn : n ≤ 1000000) :
    Calls Tryz.prog 198 #[.slice (some ⟨gw, 0, none⟩) n n] w fun e w' => ∃ gm, e = .returned (.slice (some ⟨gm, 0, none⟩) n n) ∧ BRw w' gm (metRow ps n n) ∧ w.heap.size ≤ gm ∧ Below w.heap.size w w' := by
  obtain ⟨i0, hi, hz0, hz1, hz2⟩ := info_parts infoBool
  have HR := Lib.hid hr
  have HL := Lib.hid hl
  have HP := Lib.hid hp
  clear hr hl hp
  go_enter Tryz.func198, Tryz.ntmps198
  go_wp2_with (at_make; refine wpList_make_full _ rfl _ _ 47 rfl w.heap.size 4 i0 _ 1 Tryz.underlying47 hi hz0 hz1 .i64 .i64 _ _ n rfl rfl rfl rfl (by rw [hz2]; omega) (by simp only [maxLen]; omega) (Nat.le_refl _) ?_; intro w2 hown2 hgrow2; have HM := Lib.hid (madeBools hown2 hgrow2); clear hown2 hgrow2)
  have HS := Lib.hid (show Below w.heap.size w w2 ∧ BRw w2 w.heap.size (metRow ps n 0) from ⟨HM.out.2, by rw [metRow_none]; exact HM.out.1⟩)
  clear HM hi hz0 hz1 hz2
  generalize hc : w.heap.size = c at *
  go_loopw [11] (fun i wr => ∃ k : Nat, k ≤ n ∧ i = .int .i64 k ∧ Hid (Below c w wr ∧ BRw wr c (metRow ps n k))) (fun i _ => n - (intOf i).toNat)
  case atStart => exact ⟨0, Nat.zero_le _, rfl, HS⟩
  case round =>
    obtain ⟨k, hk, rfl, HK⟩ := hrel
    clear HS
    by_cases hlt : k < n
    · have c1 := (HR.out.below (by rw [hc]; exact HK.out.1)).cell (i := k) (by rw [HL.out]; exact hlt)
      have hb := HP.out k hlt
      have i1 : (k : Int) < (n : Int) := by omega
      by_cases hz : ps.getD k 0 = -1
      · have HE := Lib.hid (metRow_old (n := n) (by rw [HL.out]; exact hlt) hz)
        rw [hz] at c1
        clear hb hz
        go_wp2
        go_roundw
        case rel => exact ⟨k + 1, by omega, by go_num, by rw [HE.out]; exact HK⟩
        case measure => simp [intOf]; omega
      · obtain ⟨m, hm⟩ : ∃ m : Nat, ps.getD k 0 = m := ⟨(ps.getD k 0).toNat, by omega⟩
        have HE := Lib.hid (metRow_put (n := n) (by rw [HL.out]; exact hlt) hm)
        rw [hm] at c1 hb hz
        have i2 : (m : Int) < (n : Int) := hb.2
        have c2 := HK.out.2.cell (i := m) (by rw [metRow_length]; omega)
        have f2 := HK.out.2.free m
        have i3 : ((m : Int) != -1) = true := by simp
        have HX := Lib.hid (HK.out.2.set m true)
        generalize (metRow ps n k).getD m false = z at *
        clear hb hz
        go_wp2
        go_roundw
        case rel => exact ⟨k + 1, by omega, by go_num, Lib.hid ⟨HK.out.1.setCell (p := ⟨c, m, none⟩) (Nat.le_refl c) (.bool true), by rw [← HE.out]; exact HX.out⟩⟩
        case measure => simp [intOf]; omega
    · obtain rfl : k = n := by omega
      clear hlt
      go_wp2
      go_ret
      exact ⟨c, rfl, HK.out.2, by omega, by rw [hc]; exact HK.out.1⟩

end Go.Proofs.YtikaoikladbdpaaGreat.D10
namespace Go.Proofs.YtikaoikladbdpaaGreat.D10
open Go.RowKit

set_option maxRecDepth 100000 in
set_option maxHeartbeats 1600000 in
theorem doPushLNil (w : World) (x : Int) :
    Calls Tryz.prog 184 #[.pointer none, .agg #[.int .u8 1, .int .i32 x]] w fun e w' => e = .returned (.agg #[.int .u8 3, .int .i32 0]) ∧ Below w.heap.size w w' := by
  go_enter Tryz.func184, Tryz.ntmps184
  go_upto_region 1 with (fail)
  generalize hW : (w.alloc (.cells #[.int .u8 1, .int .i32 x] 38)).alloc (.cells #[.int .u8 0, .int .i32 0] 74) = W
  obtain ⟨o0, o1, b0, hb⟩ := begunDo w _ _ W hW
  clear hW
  have HB := Lib.hid hb
  have HZ := Lib.hid b0
  clear hb b0
  go_wp2_with fail
  refine (pushLNil W x).mono ?_
  rintro e w1 ⟨rfl, rfl⟩
  clear o0 o1
  go_wp2_with fail
  refine (putFalse W).mono ?_
  rintro e w2 ⟨rfl, b2⟩
  have b1 := HZ.out.keep b2
  have HB2 := Lib.hid (HB.out.trans (b2.mono HB.out.size))
  clear b2 HB
  have c0 := b1.c0
  have c1 := b1.c1
  have f := b1.f
  have r := b1.set2 3 0
  have r0 := r.c0
  have r1 := r.c1
  clear b1 r
  go_wp2
  exact bodyPost_ret (v := .agg #[.int .u8 3, .int .i32 0]) (by simp [results, Tryz.results184, go_sem, r0, r1]) rfl ⟨rfl, (HB2.out.setCell (p := ⟨w.heap.size + 1, 0, none⟩) (by simp) _).setCell (p := ⟨w.heap.size + 1, 1, none⟩) (by simp) _⟩

set_option maxRecDepth 100000 in
set_option maxHeartbeats 1600000 in
theorem doPushRNil (w : World) (x : Int) :
    Calls Tryz.prog 184 #[.pointer none, .agg #[.int .u8 2, .int .i32 x]] w fun e w' => e = .returned (.agg #[.int .u8 3, .int .i32 0]) ∧ Below w.heap.size w w' := by
  go_enter Tryz.func184, Tryz.ntmps184
  go_upto_region 1 with (fail)
  generalize hW : (w.alloc (.cells #[.int .u8 2, .int .i32 x] 38)).alloc (.cells #[.int .u8 0, .int .i32 0] 74) = W
  obtain ⟨o0, o1, b0, hb⟩ := begunDo w _ _ W hW
  clear hW
  have HB := Lib.hid hb
  have HZ := Lib.hid b0
  clear hb b0
  go_wp2_with fail
  refine (pushRNil W x).mono ?_
  rintro e w1 ⟨rfl, rfl⟩
  clear o0 o1
  go_wp2_with fail
  refine (putFalse W).mono ?_
  rintro e w2 ⟨rfl, b2⟩
  have b1 := HZ.out.keep b2
  have HB2 := Lib.hid (HB.out.trans (b2.mono HB.out.size))
  clear b2 HB
  have c0 := b1.c0
  have c1 := b1.c1
  have f := b1.f
  have r := b1.set2 3 0
  have r0 := r.c0
  have r1 := r.c1
  clear b1 r
  go_wp2
  exact bodyPost_ret (v := .agg #[.int .u8 3, .int .i32 0]) (by simp [results, Tryz.results184, go_sem, r0, r1]) rfl ⟨rfl, (HB2.out.setCell (p := ⟨w.heap.size + 1, 0, none⟩) (by simp) _).setCell (p := ⟨w.heap.size + 1, 1, none⟩) (by simp) _⟩

set_option maxRecDepth 100000 in
set_option maxHeartbeats 1600000 in
theorem doPopLNil (w : World) (x : Int) :
    Calls Tryz.prog 184 #[.pointer none, .agg #[.int .u8 3, .int .i32 x]] w fun e w' => e = .returned (.agg #[.int .u8 4, .int .i32 0]) ∧ Below w.heap.size w w' := by
  go_enter Tryz.func184, Tryz.ntmps184
  go_upto_region 1 with (fail)
  generalize hW : (w.alloc (.cells #[.int .u8 3, .int .i32 x] 38)).alloc (.cells #[.int .u8 0, .int .i32 0] 74) = W
  obtain ⟨o0, o1, b0, hb⟩ := begunDo w _ _ W hW
  clear hW
  have HB := Lib.hid hb
  have HZ := Lib.hid b0
  clear hb b0
  go_wp2_with fail
  refine (popLNil W).mono ?_
  rintro e w1 ⟨rfl, rfl⟩
  clear o0 o1
  go_wp2_with fail
  refine (takenFalse W 0).mono ?_
  rintro e w2 ⟨rfl, b2⟩
  have b1 := HZ.out.keep b2
  have HB2 := Lib.hid (HB.out.trans (b2.mono HB.out.size))
  clear b2 HB
  have c0 := b1.c0
  have c1 := b1.c1
  have f := b1.f
  have r := b1.set2 4 0
  have r0 := r.c0
  have r1 := r.c1
  clear b1 r
  go_wp2
  exact bodyPost_ret (v := .agg #[.int .u8 4, .int .i32 0]) (by simp [results, Tryz.results184, go_sem, r0, r1]) rfl ⟨rfl, (HB2.out.setCell (p := ⟨w.heap.size + 1, 0, none⟩) (by simp) _).setCell (p := ⟨w.heap.size + 1, 1, none⟩) (by simp) _⟩

set_option maxRecDepth 100000 in
set_option maxHeartbeats 1600000 in
theorem doPopRNil (w : World) (x : Int) :
    Calls Tryz.prog 184 #[.pointer none, .agg #[.int .u8 4, .int .i32 x]] w fun e w' => e = .returned (.agg #[.int .u8 4, .int .i32 0]) ∧ Below w.heap.size w w' := by
  go_enter Tryz.func184, Tryz.ntmps184
  go_upto_region 1 with (fail)
  generalize hW : (w.alloc (.cells #[.int .u8 4, .int .i32 x] 38)).alloc (.cells #[.int .u8 0, .int .i32 0] 74) = W
  obtain ⟨o0, o1, b0, hb⟩ := begunDo w _ _ W hW
  clear hW
  have HB := Lib.hid hb
  have HZ := Lib.hid b0
  clear hb b0
  go_wp2_with fail
  refine (popRNil W).mono ?_
  rintro e w1 ⟨rfl, rfl⟩
  clear o0 o1
  go_wp2_with fail
  refine (takenFalse W 0).mono ?_
  rintro e w2 ⟨rfl, b2⟩
  have b1 := HZ.out.keep b2
  have HB2 := Lib.hid (HB.out.trans (b2.mono HB.out.size))
  clear b2 HB
  have c0 := b1.c0
  have c1 := b1.c1
  have f := b1.f
  have r := b1.set2 4 0
  have r0 := r.c0
  have r1 := r.c1
  clear b1 r
  go_wp2
  exact bodyPost_ret (v := .agg #[.int .u8 4, .int .i32 0]) (by simp [results, Tryz.results184, go_sem, r0, r1]) rfl ⟨rfl, (HB2.out.setCell (p := ⟨w.heap.size + 1, 0, none⟩) (by simp) _).setCell (p := ⟨w.heap.size + 1, 1, none⟩) (by simp) _⟩

set_option maxRecDepth 100000 in
set_option maxHeartbeats 1600000 in
theorem doBadNil (w : World) (x k : Int) (n1 : k ≠ 1) (n2 : k ≠ 2) (n3 : k ≠ 3) (n4 : k ≠ 4) :
    Calls Tryz.prog 184 #[.pointer none, .agg #[.int .u8 k, .int .i32 x]] w fun e w' => e = .returned (.agg #[.int .u8 5, .int .i32 0]) ∧ Below w.heap.size w w' := by
  have d1 : (k == (1 : Int)) = false := beq_eq_false_iff_ne.2 n1
  have d2 : (k == (2 : Int)) = false := beq_eq_false_iff_ne.2 n2
  have d3 : (k == (3 : Int)) = false := beq_eq_false_iff_ne.2 n3
  have d4 : (k == (4 : Int)) = false := beq_eq_false_iff_ne.2 n4
  clear n1 n2 n3 n4
  go_enter Tryz.func184, Tryz.ntmps184
  go_upto_region 1 with (fail)
  generalize hW : (w.alloc (.cells #[.int .u8 k, .int .i32 x] 38)).alloc (.cells #[.int .u8 0, .int .i32 0] 74) = W
  obtain ⟨o0, o1, b1, hb⟩ := begunDo w _ _ W hW
  clear hW
  have HB2 := Lib.hid hb
  clear hb
  have c0 := b1.c0
  have c1 := b1.c1
  have f := b1.f
  have r := b1.set2 5 0
  have r0 := r.c0
  have r1 := r.c1
  clear b1 r
  go_wp2
  exact bodyPost_ret (v := .agg #[.int .u8 5, .int .i32 0]) (by simp [results, Tryz.results184, go_sem, r0, r1]) rfl ⟨rfl, (HB2.out.setCell (p := ⟨w.heap.size + 1, 0, none⟩) (by simp) _).setCell (p := ⟨w.heap.size + 1, 1, none⟩) (by simp) _⟩

theorem doNil (w : World) (k x : Int) :
    Calls Tryz.prog 184 #[.pointer none, .agg #[.int .u8 k, .int .i32 x]] w fun e w' => e = .returned (.agg #[.int .u8 (dqC 0 [] k), .int .i32 (dqV [] k)]) ∧ Below w.heap.size w w' := by
  by_cases h1 : k = 1
  · subst h1; exact (doPushLNil w x).mono fun _ _ ⟨a, b⟩ => ⟨by simpa [dqC, dqV] using a, b⟩
  by_cases h2 : k = 2
  · subst h2; exact (doPushRNil w x).mono fun _ _ ⟨a, b⟩ => ⟨by simpa [dqC, dqV] using a, b⟩
  by_cases h3 : k = 3
  · subst h3; exact (doPopLNil w x).mono fun _ _ ⟨a, b⟩ => ⟨by simpa [dqC, dqV] using a, b⟩
  by_cases h4 : k = 4
  · subst h4; exact (doPopRNil w x).mono fun _ _ ⟨a, b⟩ => ⟨by simpa [dqC, dqV] using a, b⟩
  exact (doBadNil w x k h1 h2 h3 h4).mono fun _ _ ⟨a, b⟩ => ⟨by simpa [dqC, dqV, h1, h2, h3, h4] using a, b⟩

def RngO (w : World) (F : Nat → Prop) (sp : Option Nat) (most : Int) (zs : List Int) : Prop :=
  match sp with
  | none => most = 0 ∧ zs = []
  | some p => Rng w F p most zs
def ptrO (sp : Option Nat) : Option Addr := sp.map fun p => ⟨p, 0, none⟩

section
variable {w w' : World} {F G : Nat → Prop} {sp : Option Nat} {most : Int} {zs : List Int}
theorem RngO.room (h : RngO w F sp most zs) : (zs.length : Int) ≤ most ∧ 0 ≤ most ∧ most ≤ 1000 := by
  cases sp with
  | none => obtain ⟨rfl, rfl⟩ := h; simp
  | some p => exact ⟨Rng.room h, Rng.s0 h, Rng.s1 h⟩
theorem RngO.apart (h : RngO w F sp most zs) (hw : Wrote G w w') (ha : Apart F G) : RngO w' F sp most zs := by
  cases sp with
  | none => exact h
  | some p => exact Rng.apart h hw ha
theorem RngO.fresh (h : RngO w F sp most zs) (hb : Below w.heap.size w w') : RngO w' F sp most zs := h.apart (Wrote.of hb (fun _ => False)) (fun _ _ h => h)
theorem lenO (h : RngO w F sp most zs) : Calls Tryz.prog 177 #[.pointer (ptrO sp)] w fun e w' => e = .returned (.int .i64 zs.length) ∧ w = w' := by
  cases sp with
  | none => obtain ⟨_, rfl⟩ := h; exact lenNil w
  | some p => exact lenAny h
theorem mostO (h : RngO w F sp most zs) : Calls Tryz.prog 186 #[.pointer (ptrO sp)] w fun e w' => e = .returned (.int .i64 most) ∧ w = w' := by
  cases sp with
  | none => obtain ⟨rfl, _⟩ := h; exact mostNil w
  | some p => exact mostAny h
def DidO (F : Nat → Prop) (sp : Option Nat) (most : Int) (zs : List Int) (w w' : World) : Prop := ∃ F', RngO w' F' sp most zs ∧ Wrote F w w' ∧ Later F F' w ∧ ∀ g, F' g → g < w'.heap.size
theorem doO (h : RngO w F sp most zs) (hF : ∀ g, F g → g < w.heap.size) (k x : Int) :
    Calls Tryz.prog 184 #[.pointer (ptrO sp), .agg #[.int .u8 k, .int .i32 x]] w fun e w' => e = .returned (.agg #[.int .u8 (dqC most zs k), .int .i32 (dqV zs k)]) ∧ DidO F sp most (dqL most zs k x) w w' := by
  cases sp with
  | none =>
    obtain ⟨rfl, rfl⟩ := h
    refine (doNil w k x).mono fun e w' ⟨he, hb⟩ => ⟨he, F, ⟨rfl, ?_⟩, Wrote.of hb F, Later.refl _ _, fun g hg => Nat.lt_of_lt_of_le (hF g hg) hb.size⟩
    unfold dqL
    simp
  | some p => exact (doAny h k x).mono fun e w' ⟨he, F', r, wr, l⟩ => ⟨he, F', r, wr, l, Rng.foot r⟩
end

end Go.Proofs.YtikaoikladbdpaaGreat.D10
namespace Go.Proofs.YtikaoikladbdpaaGreat.D10
open Go.RowKit

structure CI (w1 : World) (F0 : Nat → Prop) (gt : Nat) (sp : Option Nat) (most : Int) (row : List (Int × Int)) (items : List Int) (W : World) : Prop where
  told : RRow W gt row
  wr : Wrote (fun g => F0 g ∨ g = gt) w1 W
  rng : ∃ F, RngO W F sp most items ∧ Later F0 F w1 ∧ ∀ g, F g → g < W.heap.size

section
variable {w1 W W' : World} {F0 : Nat → Prop} {gt : Nat} {sp : Option Nat} {most : Int} {row : List (Int × Int)} {items : List Int}
theorem CI.fresh (h : CI w1 F0 gt sp most row items W) (hb : Below W.heap.size W W') : CI w1 F0 gt sp most row items W' := by
  obtain ⟨h1, h2, F, f1, f2, f3⟩ := h
  exact ⟨h1.below hb, h2.trans (Wrote.of hb _), F, f1.fresh hb, f2, fun g hg => Nat.lt_of_lt_of_le (f3 g hg) hb.size⟩
theorem CI.put {a : Addr} {x : Value} {row' : List (Int × Int)} (h : CI w1 F0 gt sp most row items W) (h0 : ¬ F0 gt) (hg : gt < w1.heap.size) (ha : a.block = gt) (hr : RRow (W.setCell a x) gt row') : CI w1 F0 gt sp most row' items (W.setCell a x) := by
  obtain ⟨h1, h2, F, f1, f2, f3⟩ := h
  have hw : Wrote (fun g => g = gt) W (W.setCell a x) := (Wrote.refl (fun g => g = gt) W).setCell (q := a) (.inr ha) _
  exact ⟨hr, h2.setCell (q := a) (.inr (.inr ha)) _, F, f1.apart hw (fun g hf e => f2.not h0 hg (e ▸ hf)), f2, fun g hg => Nat.lt_of_lt_of_le (f3 g hg) hw.size⟩
theorem CI.do (h : CI w1 F0 gt sp most row items W) (h0 : ¬ F0 gt) (hg : gt < w1.heap.size) (k x : Int) :
    Calls Tryz.prog 184 #[.pointer (ptrO sp), .agg #[.int .u8 k, .int .i32 x]] W fun e w' => e = .returned (.agg #[.int .u8 (dqC most items k), .int .i32 (dqV items k)]) ∧ CI w1 F0 gt sp most row (dqL most items k x) w' := by
  obtain ⟨h1, h2, F, f1, f2, f3⟩ := h
  refine (doO f1 f3 k x).mono ?_
  rintro e w' ⟨he, F', r, wr, l, hs⟩
  have hn : ¬ F gt := f2.not h0 hg
  refine ⟨he, h1.keep (wr.block _ h1.lt hn), ?_, F', r, f2.trans l h2.size, hs⟩
  exact h2.step (fun g hg' => (f2 g hg').imp .inl id) wr
theorem CI.put2 (h : CI w1 F0 gt sp most row items W) (h0 : ¬ F0 gt) (hg : gt < w1.heap.size) (k : Nat) (c x : Int) : CI w1 F0 gt sp most (row.set k (c, x)) items ((W.setCell ⟨gt, k * 2, none⟩ (.int .u8 c)).setCell ⟨gt, k * 2 + 1, none⟩ (.int .i32 x)) :=
  (h.put h0 hg (a := ⟨gt, k * 2, none⟩) rfl (h.told.set1 k c)).put h0 hg (a := ⟨gt, k * 2 + 1, none⟩) rfl (h.told.set2 k c x)
theorem CI.same (h : CI w1 F0 gt sp most row items W) {g : Nat} (hl : g < w1.heap.size) (h0 : ¬ F0 g) (hg : g ≠ gt) : W.heap[g]? = w1.heap[g]? := h.wr.block g hl (fun e => e.elim h0 hg)
end

def ComePost (w : World) (F : Nat → Prop) (sp : Option Nat) (most : Int) (zs : List Int) (os : List (Int × Int)) (n : Nat) (e : Ending) (w' : World) : Prop :=
  ∃ gt F', e = .returned (.slice (some ⟨gt, 0, none⟩) n n) ∧ RRow w' gt (resL most zs os n) ∧ RngO w' F' sp most (itA most zs os n) ∧ Wrote F w w' ∧ Later F F' w ∧ w.heap.size ≤ gt ∧ ¬ F' gt ∧ ∀ g, F' g → g < w'.heap.size

theorem comeDone {w w1 w' : World} {F : Nat → Prop} {gt n : Nat} {sp : Option Nat} {most : Int} {zs : List Int} {os : List (Int × Int)} (hb : Below w.heap.size w w1) (hg : w.heap.size ≤ gt) (hgl : gt < w1.heap.size) (h0 : ¬ F gt)
    (h : CI w1 F gt sp most (resK most zs os n n) (dkA most zs os n n) w') : ComePost w F sp most zs os n (.returned (.slice (some ⟨gt, 0, none⟩) n n)) w' := by
  obtain ⟨h1, h2, F', f1, f2, f3⟩ := h
  rw [resK_all] at h1
  rw [dkA_all] at f1
  have hs := hb.size
  refine ⟨gt, F', rfl, h1, f1, ⟨h2.os.trans hb.os, h2.tape.trans hb.tape, h2.output.trans hb.output, Nat.le_trans hs h2.size, fun k hk hn => ?_⟩, fun g hg' => ?_, hg, f2.not h0 hgl, f3⟩
  · refine (h2.block k (by omega) ?_).trans (hb.block k hk)
    rintro (h1 | h1)
    · exact hn h1
    · omega
  · exact (f2 g hg').imp id (fun h => Nat.le_trans hs h)

set_option maxRecDepth 100000 in
set_option maxHeartbeats 8000000 in
theorem comeAny {w : World} {F : Nat → Prop} {sp : Option Nat} {most : Int} {zs : List Int} (h : RngO w F sp most zs) (hF : ∀ g, F g → g < w.heap.size) (ao : Option Addr) (n cap gw gc : Nat) (os : List (Int × Int)) (ho : OpsAt w ao n os) (hoff : 0 < n → Off F ao) (hn : n ≤ 1000000)
    (hw : Rw w gw .i64 3 (psA most zs os n)) (hc : Rw w gc .u8 5 (dcL most (olds zs.length) (kindsOf os) n)) (fw : ¬ F gw) (fc : ¬ F gc) :
    Calls Tryz.prog 187 #[.slice ao n cap, .slice (some ⟨gw, 0, none⟩) n n, .slice (some ⟨gc, 0, none⟩) n n, .func (Fn.func 184) #[.pointer (ptrO sp)] #[]] w (ComePost w F sp most zs os n) := by
  obtain ⟨j0, hj, hy0, hy1, hy2⟩ := info_parts infoRes
  have HZ := Lib.hid h.room
  have H := Lib.hid h
  have HF := Lib.hid hF
  have HO := Lib.hid ho
  have HOF := Lib.hid hoff
  have HW := Lib.hid hw
  have HC := Lib.hid hc
  have HFW := Lib.hid (And.intro fw fc)
  clear h hF ho hoff hw hc fw fc
  go_enter Tryz.func187, Tryz.ntmps187
  go_wp2_with (at_make; refine wpList_make_full _ rfl _ _ 69 rfl w.heap.size 74 j0 _ 2 Tryz.underlying69 hj hy0 hy1 .i64 .i64 _ _ n rfl rfl rfl rfl (by rw [hy2]; omega) (by simp only [maxLen]; omega) (Nat.le_refl _) ?_; intro w2 hown2 hgrow2; have HM := Lib.hid (madeRes hown2 hgrow2); clear hown2 hgrow2)
  have C := metOfAny w2 gw n _ (HW.out.below HM.out.2) psA_length (fun k hk => by
    rw [psA_getD hk]
    have := ptA_in (os := os) HZ.out.1 k
    omega) hn
  go_wp2_with fail
  refine C.mono ?_
  clear C
  rintro e w1 ⟨gm, rfl, hm, hgm, b1⟩
  have hb : Below w.heap.size w w1 := HM.out.2.trans (b1.mono HM.out.2.size)
  have hgl : w.heap.size < w1.heap.size := Nat.lt_of_lt_of_le HM.out.1.lt b1.size
  have HI := Lib.hid (show CI w1 F w.heap.size sp most (resK most zs os n 0) (dkA most zs os n 0) w1 from ⟨by rw [resK_none]; exact HM.out.1.below b1, Wrote.refl _ _, F, by rw [dkA_zero]; exact H.out.fresh hb, Later.refl _ _, fun g hg => Nat.lt_of_lt_of_le (HF.out g hg) hb.size⟩)
  have HG := Lib.hid (show ¬ F w.heap.size ∧ w.heap.size < w1.heap.size ∧ gw ≠ w.heap.size ∧ gc ≠ w.heap.size ∧ gm ≠ w.heap.size ∧ ¬ F gm from ⟨fun e => by have := HF.out _ e; omega, hgl, by have := HW.out.lt; omega, by have := HC.out.lt; omega, by have := HM.out.1.lt; omega, fun e => by have := HF.out _ e; have := HM.out.2.size; omega⟩)
  have HW1 := Lib.hid (HW.out.below hb)
  have HC1 := Lib.hid (HC.out.below hb)
  have HM1 := Lib.hid hm
  have HO1 := Lib.hid (HO.out.keep hb)
  have HB := Lib.hid (And.intro hb (Nat.le_refl w.heap.size))
  have HOL := Lib.hid (show 0 < n → ∀ x, ao = some x → x.block ≠ w.heap.size from fun hp x hx => by
    obtain ⟨b, off, e, hbl, _⟩ := HO.out.2 hp
    rw [e] at hx
    injection hx with hx
    subst hx
    exact Nat.ne_of_lt hbl)
  clear hb hgl hgm b1 hm HM HW HC HO H HF hj hy0 hy1 hy2
  generalize hgt : w.heap.size = gt at HI HG HOL ⊢
  have HGT := Lib.hid hgt
  clear hgt
  go_wp2
  go_loopw [21] (fun i wr => ∃ k : Nat, k ≤ n ∧ i = .int .i64 k ∧ Hid (CI w1 F gt sp most (resK most zs os n k) (dkA most zs os n k) wr)) (fun i _ => n - (intOf i).toNat)
  case atStart => exact ⟨0, Nat.zero_le _, rfl, HI⟩
  case round =>
    obtain ⟨k, hk, rfl, HK⟩ := hrel
    clear HI
    by_cases hlt : k < n
    · obtain ⟨b, off, rfl, bl, hc⟩ := HO1.out.2 (by omega)
      have hbo := HK.out.same bl (HOF.out (by omega) _ rfl) (HOL.out (by omega) _ rfl)
      have x0 := (World.cell?_of_block (a := ⟨b, off + k * 2, none⟩) hbo).trans (hc k hlt).1
      have x1 := (World.cell?_of_block (a := ⟨b, off + k * 2 + 1, none⟩) hbo).trans (hc k hlt).2
      have HKD := Lib.hid (And.intro (show kindsOf os k = (os.getD k (0, 0)).1 from rfl) (show valOf os (k : Int) = (os.getD k (0, 0)).2 by simp [valOf]))
      have i1 : (k : Int) < (n : Int) := by omega
      have HOC := Lib.hid (fun (W : World) (row : List (Int × Int)) (items : List Int) (h : CI w1 F gt sp most row items W) (j : Nat) (hj : j < n) => (show W.cell? ⟨b, off + j * 2 + 1, none⟩ = some (.int .i32 (valOf os j)) from by
        rw [show valOf os (j : Int) = (os.getD j (0, 0)).2 by simp [valOf]]
        exact (World.cell?_of_block (a := ⟨b, off + j * 2 + 1, none⟩) (h.same bl (HOF.out (by omega) ⟨b, off, none⟩ rfl) (HOL.out (by omega) ⟨b, off, none⟩ rfl))).trans (hc j hj).2))
      clear hbo hc
      generalize (os.getD k (0, 0)).1 = kd at *
      generalize (os.getD k (0, 0)).2 = vl at *
      have HA := Lib.hid (HK.out.fresh (W' := wr.alloc (.cells #[.int .u8 kd, .int .i32 vl] 38)) ((Below.refl _ _).alloc (Nat.le_refl _) _))
      have HOB := Lib.hid (OBox.new wr kd vl)
      have c1 := (HC1.out.keep (HA.out.same HC1.out.lt HFW.out.2 HG.out.2.2.2.1)).cell (i := k) (by rw [dcL_length]; exact hlt)
      rw [dcL_getD hlt, code_same] at c1
      obtain ⟨c2, _⟩ := HA.out.told.cells (i := k) (by rw [resK_length hk]; exact hlt)
      rw [resK_at hlt] at c2
      have f2 := HA.out.told.free (k * 2)
      simp only at c2
      have HWS := Lib.hid HK.out.wr.size
      clear HK
      generalize hcd : cdA most zs os k = cd at *
      go_upto_region 7 with (fail)
      generalize hV : (wr.alloc (.cells #[.int .u8 kd, .int .i32 vl] 38)).setCell ⟨gt, k * 2, none⟩ (.int .u8 cd) = V
      have hci : CI w1 F gt sp most (resC most zs os n k) (dkA most zs os n k) V := by
        rw [← hV]
        refine HA.out.put HG.out.1 HG.out.2.1 rfl ?_
        rw [← resC_set hlt, hcd]
        exact HA.out.told.set1 k cd
      have hbx : OBox V wr.heap.size kd vl := by
        rw [← hV]
        exact HOB.out.other (show gt ≠ wr.heap.size from fun e => by have := HG.out.2.1; have := HWS.out; omega) _
      have c3 := (HW1.out.keep (hci.same HW1.out.lt HFW.out.1 HG.out.2.2.1)).cell (i := k) (by rw [psA_length]; exact hlt)
      rw [psA_getD hlt] at c3
      have HCI := Lib.hid hci
      have hpt := ptA_in (os := os) HZ.out.1 k
      have HCD := Lib.hid hcd
      clear hV HA HOB c1 c2 f2 x0 x1 hcd
      by_cases hp : ptA most zs os k = -1
      · have c4 := (HC1.out.keep (hci.same HC1.out.lt HFW.out.2 HG.out.2.2.2.1)).cell (i := k) (by rw [dcL_length]; exact hlt)
        rw [dcL_getD hlt, code_same, HCD.out] at c4
        rw [hp] at c3
        by_cases h3 : cd = 3
        · have hs := stepFull (n := n) (HCD.out.trans h3)
          have HN := Lib.hid (show CI w1 F gt sp most (resK most zs os n (k + 1)) (dkA most zs os n (k + 1)) V from by rw [hs.1, ← resC_idle hlt hs.2]; exact hci)
          subst h3
          clear hci hbx hpt hs hp HCI HKD HOC HCD
          go_wp2
          go_roundw
          case rel => exact ⟨k + 1, by omega, by go_num, HN⟩
          case measure => simp [intOf]; omega
        · have d3 : (cd != 3) = true := by simpa using h3
          have c5 := (show BRw V gm _ from HM1.out.keep (hci.same HM1.out.lt HG.out.2.2.2.2.2 HG.out.2.2.2.2.1)).cell (i := k) (by rw [metRow_length]; exact hlt)
          rw [metRow_at hlt psA_length] at c5
          cases hm : metB (psA most zs os n) k with
          | true =>
            rw [hm] at c5
            have hs := stepMet hm
            have HN := Lib.hid (show CI w1 F gt sp most (resK most zs os n (k + 1)) (dkA most zs os n (k + 1)) V from by rw [hs.1, ← resC_idle hlt hs.2]; exact hci)
            clear hci hbx hpt hs hp HCI HKD HOC HCD h3 hm
            go_wp2
            go_roundw
            case rel => exact ⟨k + 1, by omega, by go_num, HN⟩
            case measure => simp [intOf]; omega
          | false =>
            rw [hm] at c5
            have hs := stepDo hp (by rw [HCD.out]; exact h3) hm
            rw [HKD.out.1, HKD.out.2, HCD.out] at hs
            have C := hci.do HG.out.1 HG.out.2.1 kd vl
            rw [hs.1, hs.2.1, hs.2.2] at C
            have HR := Lib.hid (fun W (h : CI w1 F gt sp most (resC most zs os n k) (dkA most zs os n (k + 1)) W) => (show CI w1 F gt sp most (resK most zs os n (k + 1)) (dkA most zs os n (k + 1)) _ from by
              have := h.put2 HG.out.1 HG.out.2.1 k cd (vlA most zs os k)
              rwa [resC_put hlt _ _ HCD.out.symm rfl] at this))
            have x0 := hbx.c0
            have x1 := hbx.c1
            clear hci hbx hpt hs hp HCI HKD HOC HCD h3 hm
            generalize vlA most zs os k = cv at *
            go_wp2_with fail
            refine C.mono ?_
            clear C
            rintro e w6 ⟨rfl, h6⟩
            obtain ⟨z0, z1⟩ := h6.told.cells (i := k) (by rw [resC_length hk]; exact hlt)
            have f6 := h6.told.free
            have HN := Lib.hid (HR.out w6 h6)
            clear h6 HR x0 x1 c3 c4 c5
            generalize (resC most zs os n k).getD k (0, 0) = cc at *
            obtain ⟨cc1, cc2⟩ := cc
            simp only at z0 z1
            go_wp2
            go_roundw
            case rel => exact ⟨k + 1, by omega, by go_num, HN⟩
            case measure => simp [intOf]; omega
      · obtain ⟨j, hj⟩ : ∃ j : Nat, ptA most zs os k = j := ⟨(ptA most zs os k).toNat, by omega⟩
        have hs := stepMeet (n := n) HZ.out.1 hlt hp
        rw [hj] at hs hpt c3
        have i2 : (j : Int) < (n : Int) := by omega
        have i3 : ((j : Int) != -1) = true := by simp
        have y1 := HOC.out V _ _ hci j (by omega)
        obtain ⟨_, z1⟩ := hci.told.cells (i := k) (by rw [resC_length hk]; exact hlt)
        have f6 := hci.told.free (k * 2 + 1)
        have HN := Lib.hid (show CI w1 F gt sp most (resK most zs os n (k + 1)) (dkA most zs os n (k + 1)) (V.setCell ⟨gt, k * 2 + 1, none⟩ (.int .i32 (valOf os j))) from by
          rw [hs.1]
          refine hci.put HG.out.1 HG.out.2.1 rfl ?_
          rw [← resC_put hlt ((resC most zs os n k).getD k (0, 0)).1 (valOf os j) (by rw [resC_at hlt]) hs.2.symm]
          exact hci.told.setV k _)
        generalize (resC most zs os n k).getD k (0, 0) = cc at *
        obtain ⟨cc1, cc2⟩ := cc
        simp only at z1
        clear hci hbx hpt hs hp HCI HKD HOC HCD hj
        generalize valOf os j = v at *
        go_wp2
        go_roundw
        case rel => exact ⟨k + 1, by omega, by go_num, HN⟩
        case measure => simp [intOf]; omega
    · obtain rfl : k = n := by omega
      clear hlt
      go_wp2
      go_ret
      exact comeDone HB.out.1 (Nat.le_of_eq HGT.out) HG.out.2.1 HG.out.1 HK.out

end Go.Proofs.YtikaoikladbdpaaGreat.D10
namespace Go.Proofs.YtikaoikladbdpaaGreat.D10
open Go.RowKit

theorem ComePost.from {w w1 w' : World} {F : Nat → Prop} {sp : Option Nat} {most : Int} {zs : List Int} {os : List (Int × Int)} {n : Nat} {e : Ending} (hb : Below w.heap.size w w1) (h : ComePost w1 F sp most zs os n e w') : ComePost w F sp most zs os n e w' := by
  obtain ⟨gt, F', he, r, s, wr, l, g, hn, hs⟩ := h
  exact ⟨gt, F', he, r, s, (Wrote.of hb F).trans wr, fun g hg => (l g hg).imp id (fun h => Nat.le_trans hb.size h), Nat.le_trans hb.size g, hn, hs⟩

set_option maxRecDepth 100000 in
set_option maxHeartbeats 3200000 in
theorem applyAny {w : World} {F : Nat → Prop} {sp : Option Nat} {most : Int} {zs : List Int} (h : RngO w F sp most zs) (hF : ∀ g, F g → g < w.heap.size) (ao : Option Addr) (n cap : Nat) (os : List (Int × Int)) (ho : OpsAt w ao n os) (hoff : 0 < n → Off F ao) (hn : n ≤ 1000000) :
    Calls Tryz.prog 183 #[.pointer (ptrO sp), .slice ao n cap] w (ComePost w F sp most zs os n) := by
  obtain ⟨hz, h0, hm⟩ := h.room
  have L := lenO h
  have M := mostO h
  have C := pairsAny w zs.length most ao n cap os ho hn
  rw [mostOf_self most h0 (by omega), show haveOf zs.length most = (zs.length : Int) by unfold haveOf; rw [if_neg (by omega), if_neg (by omega)]] at C
  have HX := Lib.hid (fun w1 (gw gc : Nat) (b1 : Below w.heap.size w w1) (r1 : Rw w1 gw .i64 3 (psA most zs os n)) (r2 : Rw w1 gc .u8 5 (dcL most (olds zs.length) (kindsOf os) n)) (l1 : w.heap.size ≤ gw) (l2 : w.heap.size ≤ gc) =>
    (comeAny (h.fresh b1) (fun g hg => Nat.lt_of_lt_of_le (hF g hg) b1.size) ao n cap gw gc os (ho.keep b1) hoff hn r1 r2 (fun e => by have := hF _ e; omega) (fun e => by have := hF _ e; omega)).mono fun e w' hp => ComePost.from b1 hp)
  clear h hF ho hoff hz h0
  go_enter Tryz.func183, Tryz.ntmps183
  go_wp2_with fail
  refine L.mono ?_
  clear L
  rintro e w1 ⟨rfl, rfl⟩
  go_wp2_with fail
  refine M.mono ?_
  clear M
  rintro e w1 ⟨rfl, rfl⟩
  go_wp2_with fail
  refine C.mono ?_
  clear C
  rintro e w1 ⟨gw, gc, rfl, r1, r2, l1, l2, _, b1⟩
  have C := HX.out w1 gw gc b1 r1 r2 l1 l2
  clear HX r1 r2 l1 l2 b1
  go_wp2_with fail
  refine C.mono ?_
  clear C
  rintro e w2 hp
  have he := hp
  obtain ⟨gt, F', rfl, _⟩ := he
  have HP := Lib.hid hp
  clear hp
  go_wp2
  go_ret
  exact HP.out

end Go.Proofs.YtikaoikladbdpaaGreat.D10
namespace Go.Proofs.YtikaoikladbdpaaGreat
open Go.RowKit Go.Lib

def flat0 (zs : List Int) : List It := zs.map fun v => ⟨v, 0⟩
theorem vals_flat0 (zs : List Int) : vals (flat0 zs) = zs := by
  unfold vals flat0
  rw [List.map_map]
  exact List.map_id _
def objS (k m : Int) (s : List It × List Bool) (os : List (Int × Int)) : List It × List Bool := if k = 3 then batS m s os else (flat0 (batZ k m (vals s.1) os), s.2)
theorem objS_heap (m : Int) (s : List It × List Bool) (os : List (Int × Int)) : objS 3 m s os = batS m s os := if_pos rfl
theorem objS_other {k m : Int} {s : List It × List Bool} {os : List (Int × Int)} (h : ¬ k = 3) : objS k m s os = (flat0 (batZ k m (vals s.1) os), s.2) := if_neg h
theorem objS_vals (k m : Int) (s : List It × List Bool) (os : List (Int × Int)) : vals (objS k m s os).1 = batZ k m (vals s.1) os := by
  by_cases h : k = 3
  · subst h; rw [objS_heap]; exact batS_vals m s os
  · rw [objS_other h]; exact vals_flat0 _

section
variable {k m : Int} {zs : List Int} {os : List (Int × Int)} {n j : Nat}
theorem ordO_plain (h : ¬ k = 3) : ordO k os = os := by
  refine List.ext_getElem (ordO_length k os) fun i h1 h2 => ?_
  have e := ordO_at (obj := k) h2
  rw [ordL_plain h, idx_getD h2, Int.toNat_natCast] at e
  simpa [List.getD, h1, h2] using e
theorem batZ_plain (h : ¬ k = 3) : batZ k m zs os = runZ k m zs os := by unfold batZ; rw [ordO_plain h]
theorem place_plain (T : List (Int × Int)) (hT : T.length = n) : ∀ j, j ≤ n → placeK (idx n) T n j = T.take j ++ List.replicate (n - j) (0, 0)
  | 0, _ => by simp [placeK]
  | j + 1, h => by
    unfold placeK
    rw [place_plain T hT j (by omega), idx_getD (by omega), Int.toNat_natCast, List.set_append_right _ _ (by simp; omega), List.length_take, Nat.min_eq_left (by omega), Nat.sub_self, show n - j = (n - (j + 1)) + 1 by omega, List.replicate_succ, List.set_cons_zero, List.take_succ_eq_append_getElem (by omega), List.append_assoc]
    simp [List.getD, show j < T.length by omega]
theorem batT_plain (h : ¬ k = 3) : batT k m zs os = runT k m zs os := by
  unfold batT
  rw [ordO_plain h, ordL_plain h, place_plain _ (runT_length _ _ _ _) _ (Nat.le_refl _), Nat.sub_self, List.replicate_zero, List.append_nil]
  exact List.take_of_length_le (by rw [runT_length]; exact Nat.le_refl _)
theorem run_step (h : j < os.length) : runZ k m zs (os.take (j + 1)) = objL k m (runZ k m zs (os.take j)) (os.getD j (0, 0)).1 (os.getD j (0, 0)).2 := by
  rw [take_op8 os j h rfl, runZ_snoc]
theorem told_step (h : j < os.length) : runT k m zs (os.take (j + 1)) = runT k m zs (os.take j) ++ [(objC k m (runZ k m zs (os.take j)) (os.getD j (0, 0)).1, objV k (runZ k m zs (os.take j)) (os.getD j (0, 0)).1)] := by
  rw [take_op8 os j h rfl, runT_snoc]
theorem K9.items_run : ∀ j, j ≤ os.length → K9.itemsAt m zs os j = runZ 1 m zs (os.take j)
  | 0, _ => rfl
  | j + 1, h => by
    rw [run_step (by omega), ← K9.items_run j (by omega)]
    rfl
theorem K9.res_run : ∀ j, j ≤ os.length → K9.resL m zs os j = runT 1 m zs (os.take j)
  | 0, _ => rfl
  | j + 1, h => by
    rw [told_step (by omega), ← K9.items_run j (by omega), K9.resL_snoc, K9.res_run j (by omega)]
    rfl
theorem K9.told_bat (h : os.length = n) : K9.resL m zs os n = batT 1 m zs os ∧ K9.itemsAt m zs os n = batZ 1 m zs os := by
  subst h
  rw [K9.res_run _ (Nat.le_refl _), K9.items_run _ (Nat.le_refl _), batT_plain (by decide), batZ_plain (by decide), List.take_length]
  exact ⟨rfl, rfl⟩
theorem D10.items_run : ∀ j, j ≤ os.length → D10.itA m zs os j = runZ 2 m zs (os.take j)
  | 0, _ => rfl
  | j + 1, h => by
    rw [run_step (by omega), ← D10.items_run j (by omega)]
    rfl
theorem D10.res_run : ∀ j, j ≤ os.length → D10.resL m zs os j = runT 2 m zs (os.take j)
  | 0, _ => rfl
  | j + 1, h => by
    rw [told_step (by omega), ← D10.items_run j (by omega), D10.resL_snoc, D10.res_run j (by omega)]
    rfl
theorem D10.told_bat (h : os.length = n) : D10.resL m zs os n = batT 2 m zs os ∧ D10.itA m zs os n = batZ 2 m zs os := by
  subst h
  rw [D10.res_run _ (Nat.le_refl _), D10.items_run _ (Nat.le_refl _), batT_plain (by decide), batZ_plain (by decide), List.take_length]
  exact ⟨rfl, rfl⟩
def turnR (k m : Int) (zs : List Int) (os : List (Int × Int)) (n j : Nat) : List (Int × Int) := runT k m zs (os.take j) ++ List.replicate (n - j) (0, 0)
theorem turnR_length (h : os.length = n) (hj : j ≤ n) : (turnR k m zs os n j).length = n := by unfold turnR; rw [List.length_append, runT_length, List.length_take, List.length_replicate]; omega
theorem turnR_none : turnR k m zs os n 0 = List.replicate n (0, 0) := by simp [turnR, runT]
theorem turnR_all (h : os.length = n) : turnR k m zs os n n = runT k m zs os := by
  unfold turnR
  rw [List.take_of_length_le (by omega), Nat.sub_self, List.replicate_zero, List.append_nil]
theorem turnR_next (h : os.length = n) (hj : j < n) : (turnR k m zs os n j).set j (objC k m (runZ k m zs (os.take j)) (os.getD j (0, 0)).1, objV k (runZ k m zs (os.take j)) (os.getD j (0, 0)).1) = turnR k m zs os n (j + 1) := by
  have hl : (runT k m zs (os.take j)).length = j := by rw [runT_length, List.length_take]; omega
  unfold turnR
  rw [told_step (by omega), List.set_append_right _ _ (by omega), hl, Nat.sub_self, show n - j = (n - (j + 1)) + 1 by omega, List.replicate_succ, List.set_cons_zero, List.append_assoc]
  rfl
theorem ordL_one (o : Int × Int) : ordL k [o] = [0] := List.perm_singleton.1 (ordK_perm k [o] 1)
theorem ordO_one (o : Int × Int) : ordO k [o] = [o] := by unfold ordO; rw [ordL_one]; rfl
theorem batZ_one (o : Int × Int) : batZ k m zs [o] = objL k m zs o.1 o.2 := by unfold batZ; rw [ordO_one]; rfl
theorem batT_one (o : Int × Int) : batT k m zs [o] = [(objC k m zs o.1, objV k zs o.1)] := by unfold batT; rw [ordO_one, ordL_one]; rfl
end

end Go.Proofs.YtikaoikladbdpaaGreat
namespace Go.Proofs.YtikaoikladbdpaaGreat
open Go.RowKit Go.Lib

def V32 (zs : List Int) : Prop := ∀ z ∈ zs, -2147483648 ≤ z ∧ z ≤ 2147483647

section
variable {obj m : Int} {zs : List Int} {os : List (Int × Int)}
theorem V32.headD (h : V32 zs) : -2147483648 ≤ zs.headD 0 ∧ zs.headD 0 ≤ 2147483647 := by
  cases zs with
  | nil => simp
  | cons z l => simpa using h z (by simp)
theorem V32.lastD (h : V32 zs) : -2147483648 ≤ zs.getLastD 0 ∧ zs.getLastD 0 ≤ 2147483647 := by
  cases e : zs.getLast? with
  | none => simp [List.getLastD_eq_getLast?, e]
  | some z => simpa [List.getLastD_eq_getLast?, e] using h z (List.mem_of_getLast? e)
theorem objL_mem {k x z : Int} (h : z ∈ objL obj m zs k x) : z ∈ zs ∨ z = x := by
  have ht : ∀ (n : Nat) (l r : List Int), z ∈ l.take n ++ x :: r → (∀ y, y ∈ r → y ∈ zs) → (∀ y, y ∈ l → y ∈ zs) → z ∈ zs ∨ z = x := fun n l r h h1 h2 => by
    rw [List.mem_append, List.mem_cons] at h
    rcases h with h | h | h
    · exact .inl (h2 _ (List.mem_of_mem_take h))
    · exact .inr h
    · exact .inl (h1 _ h)
  unfold objL at h
  split at h
  · unfold stkL at h
    split at h
    · split at h
      · rw [List.mem_append, List.mem_singleton] at h; exact h
      · exact .inl h
    · split at h
      · exact .inl ((List.dropLast_sublist zs).subset h)
      · exact .inl h
  · split at h
    · unfold dqL at h
      split at h
      · split at h
        · rw [List.mem_cons] at h; exact h.symm
        · exact .inl h
      · split at h
        · split at h
          · rw [List.mem_append, List.mem_singleton] at h; exact h
          · exact .inl h
        · split at h
          · exact .inl (List.mem_of_mem_tail h)
          · split at h
            · exact .inl ((List.dropLast_sublist zs).subset h)
            · exact .inl h
    · split at h
      · unfold hpL at h
        split at h
        · split at h
          · exact ht _ _ _ h (fun y hy => List.mem_of_mem_drop hy) (fun y hy => hy)
          · exact .inl h
        · split at h
          · exact .inl (List.mem_of_mem_tail h)
          · exact .inl h
      · exact .inl h
theorem objL_ok (h : V32 zs) {o : Int × Int} (ho : OpOk o) : V32 (objL obj m zs o.1 o.2) := fun z hz => by
  rcases objL_mem hz with h1 | h1
  · exact h z h1
  · rw [h1]; exact ho.2
theorem objV_ok (h : V32 zs) (k : Int) : -2147483648 ≤ objV obj zs k ∧ objV obj zs k ≤ 2147483647 := by
  have h1 := h.headD
  have h2 := h.lastD
  unfold objV
  split
  · unfold stkV; split <;> omega
  · split
    · unfold dqV; split; omega; split <;> omega
    · split
      · unfold hpV; split <;> omega
      · omega
theorem objC_ok (k : Int) : 0 ≤ objC obj m zs k ∧ objC obj m zs k ≤ 255 := by
  unfold objC
  split
  · unfold stkC; split; (split <;> omega); split; (split <;> omega); omega
  · split
    · unfold dqC; split; (split <;> omega); split; (split <;> omega); omega
    · split
      · unfold hpC; split; (split <;> omega); split; (split <;> omega); omega
      · omega
theorem runZ_ok : ∀ (os : List (Int × Int)) (zs : List Int), V32 zs → (∀ o ∈ os, OpOk o) → V32 (runZ obj m zs os)
  | [], _, h, _ => h
  | o :: os, _, h, ho => runZ_ok os _ (objL_ok h (ho o (by simp))) (fun p hp => ho p (by simp [hp]))
theorem runT_ok : ∀ (os : List (Int × Int)) (zs : List Int), V32 zs → (∀ o ∈ os, OpOk o) → ∀ r ∈ runT obj m zs os, OpOk r
  | [], _, _, _, r, hr => by simp [runT] at hr
  | o :: os, zs, h, ho, r, hr => by
    unfold runT at hr
    rw [List.mem_cons] at hr
    rcases hr with rfl | hr
    · exact ⟨objC_ok _, objV_ok h _⟩
    · exact runT_ok os _ (objL_ok h (ho o (by simp))) (fun p hp => ho p (by simp [hp])) r hr
theorem getD_ok {l : List (Int × Int)} (h : ∀ r ∈ l, OpOk r) (k : Nat) : OpOk (l.getD k (0, 0)) := by
  by_cases e : k < l.length
  · rw [List.getD_eq_getElem?_getD, List.getElem?_eq_getElem e]; exact h _ (List.getElem_mem e)
  · rw [List.getD_eq_getElem?_getD, List.getElem?_eq_none (by omega)]; exact ⟨by decide, by decide⟩
theorem placeK_ok {l : List Int} {t : List (Int × Int)} {n : Nat} (h : ∀ r ∈ t, OpOk r) : ∀ k, ∀ r ∈ placeK l t n k, OpOk r
  | 0, r, hr => by
    unfold placeK at hr
    obtain rfl := List.eq_of_mem_replicate hr
    exact ⟨by decide, by decide⟩
  | k + 1, r, hr => by
    unfold placeK at hr
    rcases List.mem_or_eq_of_mem_set hr with h1 | h1
    · exact placeK_ok h k r h1
    · rw [h1]; exact getD_ok h k
theorem ordO_ok (h : ∀ o ∈ os, OpOk o) : ∀ o ∈ ordO obj os, OpOk o := fun o ho => by
  unfold ordO at ho
  rw [List.mem_map] at ho
  obtain ⟨i, _, rfl⟩ := ho
  exact getD_ok h _
theorem batT_ok (h : V32 zs) (ho : ∀ o ∈ os, OpOk o) : ∀ r ∈ batT obj m zs os, OpOk r := placeK_ok (runT_ok _ _ h (ordO_ok ho)) _
theorem batZ_ok (h : V32 zs) (ho : ∀ o ∈ os, OpOk o) : V32 (batZ obj m zs os) := runZ_ok _ _ h (ordO_ok ho)
theorem objS_ok {k : Int} {s : List It × List Bool} (h : V32 (vals s.1)) (ho : ∀ o ∈ os, OpOk o) : V32 (vals (objS k m s os).1) := by rw [objS_vals]; exact batZ_ok h ho
end

end Go.Proofs.YtikaoikladbdpaaGreat
namespace Go.Proofs.YtikaoikladbdpaaGreat
open Go.RowKit Go.Lib

def MapIs (w : World) (r : Nat) (es : Array MapEntry) : Prop := w.heap[r]? = some (.map es es.size)

theorem MapIs.lt {w : World} {r : Nat} {es : Array MapEntry} (h : MapIs w r es) : r < w.heap.size := lt_of_block h
theorem MapIs.new (w : World) : MapIs (w.alloc (.map #[] 0)) w.heap.size #[] := heap_alloc_new w _

theorem run_ins8 {P : Program} (w : World) (t kt et : TypeId) (r : Nat) (es : Array MapEntry) (k : Int) (v : Value) (hm : P.underlying t = some (.map kt et)) (hk : P.underlying kt = some (.int .u8)) (hb : MapIs w r es) (hf : Instr.findNow (.int .u8) (.int .u8 k) es.toList 0 = some none) :
    (Instr.mapUpdate t (.map (some r)) (.int .u8 k) v).run P w = .ok () { w with heap := w.heap.setIfInBounds r (.map (es.push { key := .int .u8 k, val := v, born := es.size }) (es.size + 1)) } := by
  have hc : (Instr.checkKey false 10000 kt (.int .u8 k)).run P w = .ok () w := MapKept.run_checkKey (k := .int .u8 k) hk (by simp [MapKept.IsKey]) false 9999
  simp [Instr.mapUpdate, run_underlying hm, MapKept.run_getObj_map hb, hc, MapKept.run_findKey hk hf, MapKept.run_setObj_map _ hb, Result.andThen]

theorem wpList_ins8 {P : Program} (w : World) {ops : Array Oper} {rest : List Oper} {o : Oper} {a : Act} {Q : Exit → Act → World → Prop}
    (hg : o.guard = none) (m x v : Operand) (t : TypeId) (hop : o.op = Op.insert t m x v) (kt et : TypeId) (hm : P.underlying t = some (.map kt et)) (hk : P.underlying kt = some (.int .u8))
    (r : Nat) (es : Array MapEntry) (k : Int) (u : Value) (hmv : a.eval m = .map (some r)) (hx : a.eval x = .int .u8 k) (hv : a.eval v = u) (hb : MapIs w r es) (hf : Instr.findNow (.int .u8) (.int .u8 k) es.toList 0 = some none)
    (hK : ∀ w', MapIs w' r (es.push { key := .int .u8 k, val := u, born := es.size }) → (∀ q, q ≠ r → w'.heap[q]? = w.heap[q]?) → w'.heap.size = w.heap.size → Wrote (fun q => q = r) w w' → wpList P ops Q rest (a.put o.dst undef) w') :
    wpList P ops Q (o :: rest) a w := by
  refine wpList_plain hg fun K' hK' => ?_
  have hrun := run_ins8 (P := P) w t kt et r es k u hm hk hb hf
  unfold Oper.wp
  simp [execOp, hop, hmv, hx, hv, hrun, Result.andThen]
  refine hK' _ _ (hK _ ?_ ?_ (by simp) ⟨rfl, rfl, rfl, by simp, ?_⟩)
  · have hl := hb.lt
    unfold MapIs
    simp [hl]
  · intro q hq
    simp [Array.getElem?_setIfInBounds_ne (Ne.symm hq)]
  · intro q hq hne
    simp [Array.getElem?_setIfInBounds_ne (Ne.symm hne)]

theorem run_look8 {P : Program} (w : World) (t kt et : TypeId) (r : Nat) (es : Array MapEntry) (k : Int) (ok : Bool) (i : Nat) (v : Value) (hm : P.underlying t = some (.map kt et)) (hk : P.underlying kt = some (.int .u8)) (hb : MapIs w r es) (hf : Instr.findNow (.int .u8) (.int .u8 k) es.toList 0 = some (some (i, v))) :
    (Instr.lookup t (.map (some r)) (.int .u8 k) ok).run P w = .ok (if ok then .tuple #[v, .bool true] else v) w := by
  have hc : ∀ e, (Instr.checkKey e 10000 kt (.int .u8 k)).run P w = .ok () w := fun e => MapKept.run_checkKey (k := .int .u8 k) hk (by simp [MapKept.IsKey]) e 9999
  simp [Instr.lookup, run_underlying hm, MapKept.run_getObj_map hb, hc, MapKept.run_findKey hk hf, Result.andThen]
end Go.Proofs.YtikaoikladbdpaaGreat
namespace Go.Proofs.YtikaoikladbdpaaGreat
open Go.RowKit Go.Lib

def holdM : Array MapEntry := #[{ key := .int .u8 1, val := .func (.func 66) #[] #[], born := 0 }, { key := .int .u8 2, val := .func (.func 68) #[] #[], born := 1 }, { key := .int .u8 3, val := .func (.func 70) #[] #[], born := 2 }]

theorem mapNext {w W W' : World} {m : Nat} (hb : Below w.heap.size w W) (h : w.heap.size ≤ m) (hw : Wrote (fun q => q = m) W W') : Below w.heap.size w W' := hb.trans (hw.below hb.size (fun g hg => by omega))

set_option maxRecDepth 100000 in
set_option maxHeartbeats 8000000 in
theorem holdersAny (w : World) :
    Calls Tryz.prog 45 #[] w fun e w' => Below w.heap.size w w' ∧ ∃ m, e = .returned (.map (some m)) ∧ MapIs w' m holdM := by
  have hmm := @run_makeMap Tryz.prog
  have B0 := Lib.hid (show Below w.heap.size w (w.alloc (.map #[] 0)) from (Below.refl _ _).alloc (Nat.le_refl _) _)
  have M0 := Lib.hid (MapIs.new w)
  go_enter Tryz.func45, Tryz.ntmps45
  go_wp2_with (first
    | ((with_reducible refine wpList_ins8 _ rfl _ _ _ 100 rfl 5 98 Tryz.underlying100 Tryz.underlying5 _ _ 1 _ rfl rfl rfl M0.out rfl ?_); intro W1 hm1 ho1 hs1 hw1; have M1 := Lib.hid hm1; have B1 := Lib.hid (mapNext B0.out (Nat.le_refl _) hw1); clear hm1 ho1 hs1 hw1)
    | ((with_reducible refine wpList_ins8 _ rfl _ _ _ 100 rfl 5 98 Tryz.underlying100 Tryz.underlying5 _ _ 2 _ rfl rfl rfl M1.out rfl ?_); intro W2 hm2 ho2 hs2 hw2; have M2 := Lib.hid hm2; have B2 := Lib.hid (mapNext B1.out (Nat.le_refl _) hw2); clear hm2 ho2 hs2 hw2)
    | ((with_reducible refine wpList_ins8 _ rfl _ _ _ 100 rfl 5 98 Tryz.underlying100 Tryz.underlying5 _ _ 3 _ rfl rfl rfl M2.out rfl ?_); intro W3 hm3 ho3 hs3 hw3; have M3 := Lib.hid hm3; have B3 := Lib.hid (mapNext B2.out (Nat.le_refl _) hw3); clear hm3 ho3 hs3 hw3))
  go_ret
  exact ⟨B3.out, _, rfl, M3.out⟩


end Go.Proofs.YtikaoikladbdpaaGreat
namespace Go.Proofs.YtikaoikladbdpaaGreat
open Go.RowKit Go.Shelf

attribute [local go_sem] Oper.semAt_some

section
variable {w : World} {F : Nat → Prop} {p : Nat} {most : Int} {l : List It}

end

end Go.Proofs.YtikaoikladbdpaaGreat
namespace Go.Proofs.YtikaoikladbdpaaGreat
open Go.RowKit

structure CoinV (w : World) (p : Nat) (v : Value) (bs : List Bool) : Prop where
  block : w.heap[p]? = some (.cells #[v] 145 (0, 0))
  row : Tail w v (bs.map Value.bool)
  ne : v.ownBlock ≠ some p
  len : bs.length ≤ 20000

def Coin (w : World) (F : Nat → Prop) (p : Nat) (bs : List Bool) : Prop :=
  ∃ v, CoinV w p v bs ∧ F p ∧ (∀ g, v.ownBlock = some g → F g) ∧ ∀ g, F g → g < w.heap.size

def DidC (F : Nat → Prop) (p : Nat) (bs : List Bool) (w w' : World) : Prop := ∃ F', Coin w' F' p bs ∧ Wrote F w w' ∧ Later F F' w

section
variable {w w' : World} {F G : Nat → Prop} {p : Nat} {v : Value} {bs : List Bool}

theorem CoinV.lt (h : CoinV w p v bs) : p < w.heap.size := lt_of_block h.block
theorem CoinV.c0 (h : CoinV w p v bs) : w.cell? ⟨p, 0, none⟩ = some v := by simp [World.cell?, h.block]
theorem CoinV.f (h : CoinV w p v bs) (j : Nat) : w.frozen? ⟨p, j, none⟩ = false := by simp [World.frozen?, h.block]
theorem CoinV.keep (h : CoinV w p v bs) (hs : w.heap.size ≤ w'.heap.size) (hp : w'.heap[p]? = w.heap[p]?) (hv : ∀ g, v.ownBlock = some g → w'.heap[g]? = w.heap[g]?) : CoinV w' p v bs :=
  ⟨hp.trans h.block, h.row.keep hs hv, h.ne, h.len⟩
theorem CoinV.shape (h : CoinV w p v bs) : ∃ ao cap, v = .slice ao bs.length cap ∧ bs.length ≤ cap := by
  have := h.row.shape
  simpa using this

theorem CoinV.setList (h : CoinV w p v bs) {v' : Value} {bs' : List Bool} (ho : Tail w v' (bs'.map Value.bool)) (hl : bs'.length ≤ 20000) (hne : v'.ownBlock ≠ some p) : CoinV (w.setCell ⟨p, 0, none⟩ v') p v' bs' := by
  refine ⟨?_, ho.other hne _, hne, hl⟩
  rw [heap_setCell_same w p 0 _ _ _ h.block]
  rfl

theorem Coin.len (h : Coin w F p bs) : bs.length ≤ 20000 := by obtain ⟨v, m, _⟩ := h; exact m.len
theorem Coin.foot (h : Coin w F p bs) : ∀ g, F g → g < w.heap.size := by obtain ⟨v, _, _, _, h4⟩ := h; exact h4
theorem Coin.apart (h : Coin w F p bs) (hw : Wrote G w w') (ha : Apart F G) : Coin w' F p bs := by
  obtain ⟨v, m, h2, h3, h4⟩ := h
  exact ⟨v, m.keep hw.size (hw.block _ m.lt (ha p h2)) (fun g hg => hw.block _ (h4 g (h3 g hg)) (ha g (h3 g hg))), h2, h3, fun g hg => Nat.lt_of_lt_of_le (h4 g hg) hw.size⟩
theorem Coin.fresh (h : Coin w F p bs) (hb : Below w.heap.size w w') : Coin w' F p bs := h.apart (Wrote.of hb (fun _ => False)) (fun _ _ h => h)
theorem Coin.drew (h : Coin w F p bs) : Coin w.drew F p bs := h.fresh (Below.refl _ _).drew
theorem Coin.did (h : Coin w F p bs) (hb : Below w.heap.size w w') : DidC F p bs w w' := ⟨F, h.fresh hb, Wrote.of hb F, Later.refl _ _⟩
theorem DidC.trans {a b c : World} {bs' : List Bool} (h : Wrote F a b) (hl : Later F G a) (d : DidC G p bs' b c) : DidC F p bs' a c := by
  obtain ⟨F', h1, h2, h3⟩ := d
  exact ⟨F', h1, h.step hl h2, hl.trans h3 h.size⟩
end

theorem newCoin (w : World) : Coin (w.alloc (.cells #[.slice none 0 0] 145)) (New w (w.alloc (.cells #[.slice none 0 0] 145))) w.heap.size [] :=
  ⟨.slice none 0 0, ⟨heap_alloc_new w _, Tail.nothing, by simp [Value.ownBlock], by simp⟩, ⟨Nat.le_refl _, by simp⟩, by simp [Value.ownBlock], fun g hg => hg.2⟩

theorem newC (w : World) :
    Calls Tryz.prog 46 #[] w fun e w' => e = .returned (.pointer (some ⟨w.heap.size, 0, none⟩)) ∧ Coin w' (New w w') w.heap.size [] ∧ Below w.heap.size w w' := by
  go_enter Tryz.func46, Tryz.ntmps46
  go_wp2
  go_ret
  exact ⟨rfl, newCoin w, (Below.refl _ _).alloc (Nat.le_refl _) _⟩

section
variable {w : World} {F : Nat → Prop} {p : Nat} {bs : List Bool}

theorem leftAny (h : Coin w F p bs) :
    Calls Tryz.prog 241 #[.pointer (some ⟨p, 0, none⟩)] w fun e w' => e = .returned (.int .i64 bs.length) ∧ w = w' := by
  obtain ⟨v, m, _⟩ := h
  have c0 := m.c0
  obtain ⟨ao, cap, rfl, _⟩ := m.shape
  clear m
  go_enter Tryz.func241, Tryz.ntmps241
  go_wp2
  go_ret
  exact ⟨rfl, rfl⟩

theorem tossNone (h : Coin w F p []) :
    Calls Tryz.prog 231 #[.pointer (some ⟨p, 0, none⟩)] w fun e w' => e = .returned (.bool false) ∧ w = w' := by
  have L := leftAny h
  clear h
  go_enter Tryz.func231, Tryz.ntmps231
  go_wp2_with (go_at_call 241; refine L.mono ?_; rintro e w' ⟨rfl, rfl⟩)
  go_ret
  exact ⟨rfl, rfl⟩

theorem tossed {b : Bool} {g off cap k : Nat} (hk : k = bs.length) (m : CoinV w p (.slice (some ⟨g, off, none⟩) (k + 1) cap) (b :: bs)) (h2 : F p) (h3 : F g) (h4 : ∀ g, F g → g < w.heap.size) (A : Option Addr) (hA : A = if cap = 1 then some ⟨g, off, none⟩ else some ⟨g, off + 1, none⟩) :
    DidC F p bs w (w.setCell ⟨p, 0, none⟩ (.slice A k (cap - 1))) := by
  subst hk
  have ht := m.row
  rw [show bs.length + 1 = (bs.map Value.bool).length + 1 by simp, List.map_cons] at ht
  have hr := ht.rest
  rw [List.length_map] at hr
  have hne : (Value.slice A bs.length (cap - 1)).ownBlock = some g := by subst hA; split <;> rfl
  have hm := m.ne
  refine ⟨F, ⟨_, m.setList (v' := .slice A bs.length (cap - 1)) (by rw [hA]; exact hr) (by have := m.len; simp at this; omega) (by rw [hne]; exact hm), h2, ?_, ?_⟩, (Wrote.refl F w).setCell (.inr h2) _, Later.refl _ _⟩
  · intro g' hg'
    rw [hne] at hg'
    injection hg' with hg'
    subst hg'
    exact h3
  · simpa [World.setCell] using h4

set_option maxRecDepth 100000 in
set_option maxHeartbeats 1600000 in
theorem tossOk (b : Bool) (h : Coin w F p (b :: bs)) :
    Calls Tryz.prog 231 #[.pointer (some ⟨p, 0, none⟩)] w fun e w' => e = .returned (.bool b) ∧ DidC F p bs w w' := by
  have L := leftAny h
  have hz := h.len
  obtain ⟨v, m, h2, h3, h4⟩ := h
  obtain ⟨k, hk⟩ : ∃ k, k = bs.length := ⟨_, rfl⟩
  have hl : (b :: bs).length = k + 1 := by simp [hk]
  rw [hl] at L hz
  obtain ⟨g, off, cap, hv, hc, cx⟩ := Tail.first (x := .bool b) (xs := bs.map Value.bool) (by simpa using m.row)
  rw [List.length_map, ← hk] at hv hc
  subst hv
  have c0 := m.c0
  have f0 := m.f 0
  by_cases h1 : cap = 1
  · have HQ := Lib.hid (tossed hk m h2 (h3 g rfl) h4 (some ⟨g, off, none⟩) (by rw [if_pos h1]))
    clear m hl h2 h3 h4 hk
    subst h1
    obtain rfl : k = 0 := by omega
    go_enter Tryz.func231, Tryz.ntmps231
    go_wp2_with (go_at_call 241; refine L.mono ?_; rintro e w' ⟨rfl, rfl⟩)
    go_ret
    exact ⟨rfl, HQ.out⟩
  · have HQ := Lib.hid (tossed hk m h2 (h3 g rfl) h4 (some ⟨g, off + 1, none⟩) (by rw [if_neg h1]))
    clear m hl h2 h3 h4 hk
    go_enter Tryz.func231, Tryz.ntmps231
    go_wp2_with (go_at_call 241; refine L.mono ?_; rintro e w' ⟨rfl, rfl⟩)
    go_ret
    exact ⟨rfl, HQ.out⟩

end

end Go.Proofs.YtikaoikladbdpaaGreat
namespace Go.Proofs.YtikaoikladbdpaaGreat
open Go.RowKit

def Mid (w : World) (F : Nat → Prop) (p : Nat) (bs : List Bool) (j : Nat) (wr : World) : Prop :=
  ∃ cs, DidC F p cs w wr ∧ up bs + 1 = j + (rise (8 - j) cs).1 ∧ left bs = (rise (8 - j) cs).2

theorem Mid.start {w : World} {F : Nat → Prop} {p : Nat} {bs : List Bool} (h : Coin w F p bs) : Mid w F p bs 1 w := ⟨bs, h.did (Below.refl _ _), by show (rise 7 bs).1 + 1 = 1 + (rise 7 bs).1; omega, rfl⟩

def High (F : Nat → Prop) (p : Nat) (bs : List Bool) (w : World) (e : Ending) (w' : World) : Prop := e = .returned (.int .i64 ((up bs : Int) + 1)) ∧ DidC F p (left bs) w w'

theorem high_mk {F : Nat → Prop} {p j : Nat} {bs : List Bool} {w w' : World} (hj : up bs + 1 = j) (d : DidC F p (left bs) w w') : High F p bs w (.returned (.int .i64 (j : Int))) w' := by
  subst hj
  exact ⟨rfl, d⟩

section
variable {w : World} {F : Nat → Prop} {p : Nat} {bs : List Bool}

set_option maxRecDepth 100000 in
set_option maxHeartbeats 1600000 in
theorem heightAny (h : Coin w F p bs) :
    Calls Tryz.prog 152 #[.pointer (some ⟨p, 0, none⟩)] w (High F p bs w) := by
  have HS := Lib.hid (Mid.start h)
  clear h
  go_enter Tryz.func152, Tryz.ntmps152
  go_wp2
  go_step3
  go_wp2
  go_step3
  go_wp2
  go_loopw [3] (fun h wr => ∃ j : Nat, 1 ≤ j ∧ j ≤ 8 ∧ h = .int .i64 j ∧ Mid w F p bs j wr) (fun h _ => 8 - (intOf h).toNat)
  case atStart => exact ⟨1, by omega, by omega, rfl, HS.out⟩
  case round =>
    obtain ⟨j, j1, j8, rfl, cs, ⟨F', c, wr', l⟩, hu, hl⟩ := hrel
    clear HS
    by_cases h8 : j = 8
    · subst h8
      have hj : up bs + 1 = 8 := by
        have e : (rise (8 - 8) cs).1 = 0 := by simp [rise]
        omega
      have hd : DidC F p (left bs) w wr := by rw [hl]; exact ⟨F', c, wr', l⟩
      have HU := Lib.hid (high_mk (j := 8) hj hd)
      clear hu hl c wr' l hj hd
      go_wp2
      (try rw [Exit.noGoto_ret])
      go_ret
      exact HU.out
    · obtain ⟨n, hn⟩ : ∃ n, 8 - j = n + 1 := ⟨7 - j, by omega⟩
      rw [hn] at hu hl
      have i8 : (j : Int) < 8 := by omega
      cases cs with
      | nil =>
        have C := tossNone c
        have hj : up bs + 1 = j := by simp only [rise] at hu; omega
        have hd : DidC F p (left bs) w wr := by rw [hl]; exact ⟨F', c, wr', l⟩
        have HU := Lib.hid (high_mk hj hd)
        clear hu hl c wr' l hn hj hd
        go_wp2_with (go_at_call 231; refine C.mono ?_; rintro e w' ⟨rfl, rfl⟩)
        (try rw [Exit.noGoto_ret])
        go_ret
        exact HU.out
      | cons b cs =>
        have C := tossOk b c
        have HD := Lib.hid (fun (w1 : World) (d : DidC F' p cs wr w1) => DidC.trans wr' l d)
        cases b with
        | false =>
          have HU := Lib.hid (And.intro hu hl)
          clear hu hl c wr' l hn
          go_wp2_with (go_at_call 231; refine C.mono ?_; rintro e w1 ⟨rfl, d⟩; have HD := Lib.hid (HD.out _ d); clear d)
          (try rw [Exit.noGoto_ret])
          go_ret
          have hu := HU.out.1
          have hl := HU.out.2
          exact high_mk (j := j) (by simp only [rise] at hu; omega) (by rw [hl]; exact HD.out)
        | true =>
          have HU := Lib.hid (And.intro hu (And.intro hl hn))
          clear hu hl c wr' l hn
          go_wp2_with (go_at_call 231; refine C.mono ?_; rintro e w1 ⟨rfl, d⟩; have HD := Lib.hid (HD.out _ d); clear d)
          go_roundw
          case rel =>
            obtain ⟨hu, hl, hn⟩ := HU.out
            refine ⟨j + 1, by omega, by omega, by go_num, cs, HD.out, ?_, ?_⟩
            · rw [show 8 - (j + 1) = n by omega]; simp only [rise] at hu; omega
            · rw [show 8 - (j + 1) = n by omega]; simpa only [rise] using hl
          case measure => simp [intOf]; omega

end

end Go.Proofs.YtikaoikladbdpaaGreat
namespace Go.Proofs.YtikaoikladbdpaaGreat
open Go.RowKit

section
variable {w : World} {F : Nat → Prop} {p : Nat} {bs : List Bool}

end

end Go.Proofs.YtikaoikladbdpaaGreat
