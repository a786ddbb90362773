/-
  What the document's own Place, Reach and Records (package reaperref14) tell. Conditions: at most 1000 cells.
-/
import Derived.Test.YtllgcnljpehgeaaAskT14m
import Derived.Test.YtllgcnljpehgeaaAskW14m
import Derived.Test.YtllgcnljpehgeaaAskR14m
import Derived.Test.YtllgcnljpehgeaaRefSee14m
import Derived.BigQuiet
namespace Go.Proofs.Ytllgcnljpehgeaa.M2
open Go.RowKit

/-- What Place tells: whether it is there. -/
def PlaceNew (w : World) (xs : List Int) (v : Int) (e : Ending) (w' : World) : Prop := ∃ i : Int, e = .returned (.int .i64 i) ∧ (-1 ≤ i ∧ i ≤ 1000) ∧ (v ∈ xs → 0 ≤ i) ∧ (v ∉ xs → i = -1) ∧ Below w.heap.size w w'

set_option maxRecDepth 100000 in
set_option maxHeartbeats 1600000 in
theorem refPlace (w : World) (ao : Option Addr) (n cap : Nat) (xs : List Int) (h : Reads .i64 w ao n xs) (hl : n ≤ 1000) (v : Int) :
    Calls Try.prog 23 #[.slice ao n cap, .int .i64 v] w (PlaceNew w xs v) := by
  obtain rfl : xs.length = n := h.1
  have H := Lib.hid h
  clear h
  generalize hn : xs.length = n at *
  have HN := Lib.hid hn
  clear hn
  go_enter Try.func23, Try.ntmps23
  go_wp2
  go_loopw [5] (fun i wr => ∃ k : Nat, k ≤ n ∧ i = .int .i64 k ∧ v ∉ xs.take k ∧ Hid (w = wr)) (fun i _ => n - (intOf i).toNat)
  case atStart => exact ⟨0, Nat.zero_le _, rfl, by simp, rfl⟩
  case round =>
    obtain ⟨k, hk, rfl, hno, hw⟩ := hrel
    have hw : w = wr := hw
    subst hw
    have HNo := Lib.hid hno
    clear hno
    by_cases hlt : k < n
    · obtain ⟨b, o, rfl, l1, hc⟩ := H.out.2 (by omega)
      have c0 := hc k hlt
      have hx : xs.getD k 0 ∈ xs := by rw [List.getD_eq_getElem?_getD]; have : k < xs.length := by rw [HN.out]; exact hlt
                                       simp [this]
      have ht : xs.take (k + 1) = xs.take k ++ [xs.getD k 0] := by
        have : k < xs.length := by rw [HN.out]; exact hlt
        rw [List.take_succ_eq_append_getElem this]; simp [List.getD, this]
      have HX := Lib.hid hx
      have HT := Lib.hid ht
      have i0 : (k : Int) < n := by omega
      have HLT := Lib.hid hlt
      clear hc hx ht hlt hk
      generalize xs.getD k 0 = x at *
      by_cases he : x = v
      · subst he
        go_wp2
        go_ret
        exact ⟨k, rfl, by omega, fun _ => by omega, fun h => absurd HX.out h, Below.refl _ _⟩
      · have he2 : (x == v) = false := by simpa using he
        have HE := Lib.hid he
        clear he
        go_wp2
        go_roundw
        case rel => exact ⟨k + 1, HLT.out, by go_num, by rw [HT.out]; simp only [List.mem_append, List.mem_singleton, not_or]; exact ⟨HNo.out, fun e => HE.out e.symm⟩, Lib.hid trivial⟩
        case measure => have := HLT.out; simp [intOf]; omega
    · obtain rfl : k = n := by omega
      clear hlt hk
      go_wp2
      go_ret
      have hno : v ∉ xs := by have := HNo.out; rwa [List.take_of_length_le (by have := HN.out; omega)] at this
      exact ⟨-1, rfl, by omega, fun h => absurd h hno, fun _ => rfl, Below.refl _ _⟩

/-- The document's memory in a box, and a list of numbers whose row was made behind n blocks. -/
def RO (w : World) (n : Nat) (size : Int) (u : Value) (st : Int) (v : Value) (xs : List Int) (W : World) : Prop :=
  Boxed W w.heap.size (.int .i64 size) u (.int .i64 st) ∧ W.ownsRow n 3 1 v xs.length (xs.map (Value.int .i64)) ∧ Below w.heap.size w W

theorem keepI {w w' : World} {n : Nat} {v : Value} {xs : List Int} (h : w.ownsRow n 3 1 v xs.length (xs.map (Value.int .i64))) (hb : Below w.heap.size w w') : w'.ownsRow n 3 1 v xs.length (xs.map (Value.int .i64)) :=
  _root_.Go.Proofs.Ytllgcnljpehgeaa.own_keep h fun g hg => by
    obtain ⟨cs, e, _⟩ := LB.row h g hg
    exact hb.block g (lt_of_block e)
theorem rowBelow {n : Nat} {W w4 : World} {v : Value} {xs : List Int} {tmp : Obj} (h : W.ownsRow n 3 1 v xs.length (xs.map (Value.int .i64))) (hn : n ≤ W.heap.size) (hg : (W.alloc tmp).grownBy w4 v.ownBlock) : Below n W w4 :=
  ((Below.refl n W).alloc hn tmp).grown hg (by simp; omega) (fun k e => by
    obtain ⟨_, _, h3⟩ := LB.row h k e
    exact h3)

section
variable {w W W' w4 : World} {n : Nat} {size st : Int} {u v v' : Value} {xs : List Int} {x : Int}
theorem RO.fresh (h : RO w n size u st v xs W) (hb : Below W.heap.size W W') : RO w n size u st v xs W' := ⟨h.1.keep hb, keepI h.2.1 hb, h.2.2.trans (hb.mono h.2.2.size)⟩
theorem RO.put {tmp : Obj} (h : RO w n size u st v xs W) (hn : w.heap.size < n) (hown : w4.ownsRow n 3 1 v' (xs.length + 1) (xs.map (Value.int .i64) ++ [.int .i64 x])) (hg : (W.alloc tmp).grownBy w4 v.ownBlock) : RO w n size u st v' (xs ++ [x]) w4 := by
  have hrow : ∀ g, v.ownBlock = some g → n ≤ g := fun g e => by
    obtain ⟨_, _, h3⟩ := LB.row h.2.1 g e
    exact h3
  have hlt : w.heap.size < W.heap.size := lt_of_block h.1
  refine ⟨?_, by rw [List.length_append, List.map_append]; exact hown, ?_⟩
  · exact ((hg.block w.heap.size (by simp; omega) (fun e => by have := hrow _ e.symm; omega)).trans (Below.heap_alloc _ _ _ hlt)).trans h.1
  · exact (h.2.2.alloc h.2.2.size tmp).grown hg (by simp; omega) (fun k e => by have := hrow k e; omega)
theorem RO.new (n : Nat) (u : Value) (size st : Int) (w : World) : RO w n size u st (.slice none 0 0) [] (w.alloc (.cells #[.int .i64 size, u, .int .i64 st] 33)) :=
  ⟨Boxed.new _ _ _ _, World.ownsRow_nil _ _ _ _, (Below.refl _ _).alloc (Nat.le_refl _) _⟩
theorem RO.turn {m : Nat} (h : RO w n size u st (.slice none 0 0) [] W) : RO w m size u st (.slice none 0 0) [] W := ⟨h.1, World.ownsRow_nil _ _ _ _, h.2.2⟩
theorem RO.reads (h : RO w n size u st v xs W) : ∃ ao cap, v = .slice ao xs.length cap ∧ Reads .i64 W ao xs.length xs := by
  obtain ⟨ao, cap, e, hr, _, _⟩ := _root_.Go.Proofs.Ytllgcnljpehgeaa.reads_own h.2.1
  exact ⟨ao, cap, e, hr⟩
theorem RO.told (h : RO w n size u st v xs W) : IntsNew w xs v W := IntsNew.of h.2.1 h.2.2
end

section
variable {w : World} {B : Nat} {u : Value} {size : Int} {zs : List Int} {st : Int} {ps : List Nat} {lost : Bool}

theorem refAtAny (h : w.ownsRow B 2 1 u zs.length (zs.map (Value.int .i64))) (a : Nat) :
    Calls Try.prog 51 #[.agg #[.int .i64 size, u, .int .i64 st], .int .i64 (a : Int)] w fun e w' => e = .returned (.int .i64 (zs.getD a 0)) ∧ Below w.heap.size w w' := by
  by_cases ha : a < zs.length
  · have C := refAtIn (size := size) (st := st) h (a : Int) (by omega) (by omega)
    rwa [Int.toNat_natCast] at C
  · have C := refAtOut (size := size) (st := st) h (a : Int) (.inr (by omega))
    rwa [show (0 : Int) = zs.getD a 0 by simp [List.getD, Nat.le_of_not_lt ha]] at C

set_option maxRecDepth 100000 in
set_option maxHeartbeats 4000000 in
theorem refRecords (h : w.ownsRow B 2 1 u zs.length (zs.map (Value.int .i64))) (hl : zs.length ≤ 1000) :
    Calls Try.prog 29 #[.agg #[.int .i64 size, u, .int .i64 st]] w fun e w' => ∃ v, e = .returned v ∧ IntsNew w (recK (mn zs.length)) v w' := by
  obtain ⟨i0, hi, hz0, hz1, hz2⟩ := info_parts infoInt
  obtain ⟨ao, cap, rfl⟩ := ownShape h
  have HM := Lib.hid (fun (W : World) (hb : Below w.heap.size w W) => refMany (size := size) (st := st) (own_keep h hb) hl)
  have hmx : mn zs.length ≤ 200 := by unfold mn; omega
  have HR0 := Lib.hid (RO.new (w.heap.size + 1) (.slice ao zs.length cap) size st w)
  clear h hl
  generalize zs.length = n at *
  generalize mn n = N at *
  go_enter Try.func29, Try.ntmps29
  go_wp2
  go_loopw [3, 4] (fun v i wr => ∃ k : Nat, k ≤ N ∧ i = .int .i64 k ∧ RO w (w.heap.size + 1) size (.slice ao n cap) st v (recK k) wr) (fun _ i _ => N - (intOf i).toNat)
  case atStart => exact ⟨0, Nat.zero_le _, rfl, HR0.out⟩
  case round =>
    obtain ⟨k, hk, rfl, hR⟩ := hrel
    obtain ⟨a2, c2, e2, hr2⟩ := hR.reads
    rw [recK_len] at e2
    subst e2
    have C := HM.out wr hR.2.2
    have c0 := hR.1.c0
    have c1 := hR.1.c1
    have c3 := hR.1.c2
    have HR := Lib.hid hR
    clear hR hr2 HR0
    go_wp2_with fail
    refine C.mono ?_
    clear C c0 c1 c3
    rintro e w1 ⟨rfl, b1⟩
    have HR1 := Lib.hid (HR.out.fresh b1)
    clear b1 HR
    by_cases hlt : k < N
    · have C2 := refBaseIn (k := (k : Int)) (by omega) (by omega) w1
      have HX := Lib.hid (recK_next k)
      have HSZ := Lib.hid (lt_of_block HR1.out.1)
      have HRL := Lib.hid (show w1.ownsRow (w.heap.size + 1) 3 1 (.slice a2 k c2) k ((recK k).map (Value.int .i64)) by have := HR1.out.2.1; rwa [recK_len] at this)
      go_wp2_with fail
      refine C2.mono ?_
      clear C2
      rintro e w' ⟨rfl, rfl⟩
      generalize 3 + 5 * (k : Int) = x at *
      go_wp2_with (at_builtin; refine wpList_append_later rfl (.tmp 11) (.tmp 14) 28 rfl (w.heap.size + 1) 3 i0 _ 1 8 Try.underlying28 hi hz0 hz1 hz2 rfl (by decide) _ _ _ rfl (HRL.out.alloc _) ⟨_, 0, none⟩ 1 1 [.int .i64 x] rfl rfl (by intro j u hu; cases j <;> simp at hu; subst hu; go_simp) (by intro u hu; simp at hu; subst hu; rfl) (by simp only [maxLen]; omega) (by omega) (by have := HSZ.out; simp; omega) ?_; intro v2 w2 q2 g2 _; have HN := Lib.hid (HR1.out.put (by omega) (by rw [recK_len]; exact q2) g2); clear q2 g2)
      rw [HX.out] at HN
      go_roundw
      case rel => exact ⟨k + 1, by omega, by go_num, HN.out⟩
      case measure => simp [intOf]; omega
    · obtain rfl : k = N := by omega
      go_wp2
      go_ret
      exact ⟨_, rfl, by have := HR1.out.told; simpa using this⟩
end

end Go.Proofs.Ytllgcnljpehgeaa.M2
