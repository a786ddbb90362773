/-
  Cells of choices (reaperlaw13.Cells): a list of int64 of one's own, of at most forty numbers. Conditions: bytes, at most 200 of them.
-/
import Derived.Test.YthefdglocnalhaaMemA15
import Derived.Test.YthefdglocnalhaaMRef13
import Derived.Deep.CutRange
namespace Go.Proofs.Ythefdglocnalhaa.M2
open Go.RowKit

set_option maxRecDepth 100000 in
theorem func8Any {w W : World} {ao : Option Addr} {len cap : Nat} {xs : List Int} (h : ArgBytes w ao len cap xs) (hb : Below w.heap.size w W) (hl : len ≤ 200) (i : Int) (i0 : 0 ≤ i) (i1 : i ≤ 100000) :
    Calls Try.prog 32 #[.slice ao len cap, .int .i64 i] W fun e w' => (∃ q : Int, e = .returned (.int .i64 q) ∧ 0 ≤ q ∧ q ≤ 255) ∧ W = w' := by
  obtain ⟨k, rfl⟩ : ∃ k : Nat, i = (k : Int) := ⟨i.toNat, by omega⟩
  by_cases hk : k < len
  · have hzl := h.1.1
    obtain ⟨b, off, rfl, lb, hc⟩ := h.1.2 (by omega)
    have c0 := (hb.cell (p := ⟨b, off + k, none⟩) lb).trans (hc k hk)
    have hq := h.2.2.2 (xs.getD k 0) (by simp [List.getD, hzl, hk])
    have HQ := Lib.hid hq
    clear hc h hb hq hzl
    generalize xs.getD k 0 = q at *
    have k0 : (k : Int) < len := by omega
    have q0 := HQ.out.1
    have q1 := HQ.out.2
    go_enter Try.func32, Try.ntmps32
    go_wp2
    go_ret
    exact ⟨⟨q, rfl, q0, q1⟩, rfl⟩
  · have k0 : (len : Int) ≤ k := by omega
    clear h
    go_enter Try.func32, Try.ntmps32
    go_wp2
    go_ret
    exact ⟨⟨0, rfl, by omega, by omega⟩, rfl⟩

/-- A list of int64 of one's own. -/
def OwnL (w : World) (v : Value) (zs : List Int) (wr : World) : Prop := wr.ownsRow w.heap.size 2 1 v zs.length (zs.map (Value.int .i64)) ∧ Below w.heap.size w wr

/-- What Cells tells. -/
def CellsNew (w : World) (e : Ending) (w' : World) : Prop := ∃ ao cap zs, e = .returned (.slice ao zs.length cap) ∧ zs.length ≤ 40 ∧ OwnL w (.slice ao zs.length cap) zs w'

theorem OwnL.next {w wr W w2 : World} {v v' : Value} {zs ys : List Int} (h : OwnL w v zs wr) (hb : Below wr.heap.size wr W) (ho : w2.ownsRow w.heap.size 2 1 v' (zs.length + ys.length) (zs.map (Value.int .i64) ++ ys.map (Value.int .i64))) (hg : W.grownBy w2 v.ownBlock) : OwnL w v' (zs ++ ys) w2 := by
  refine ⟨?_, ?_⟩
  · rw [List.length_append, List.map_append]
    exact ho
  · have hw : Below w.heap.size w W := h.2.trans (hb.mono h.2.size)
    exact hw.grown hg hw.size (by intro g hg'; exact (h.1.lt g hg').1)

theorem cells5 (w : World) (l : List Int) : ∀ j u, (l.map (Value.int .i64))[j]? = some u → (w.alloc (.cells (l.map (Value.int .i64)).toArray 2)).cell? ((⟨w.heap.size, 0, none⟩ : Addr).add j) = some u := by
  intro j u hu
  have hn := heap_alloc_new w (.cells (l.map (Value.int .i64)).toArray 2)
  rw [Addr.add_lit, Nat.zero_add]
  unfold World.cell?
  simp only [hn]
  simpa using hu

/-- What holds at each round's head. -/
def CellsRel (w : World) (n : Nat) (v i : Value) (wr : World) : Prop :=
  ∃ (k : Nat) (zs : List Int), k ≤ n ∧ i = .int .i64 k ∧ zs.length = 3 + 5 * k ∧ OwnL w v zs wr

set_option maxRecDepth 100000 in
set_option maxHeartbeats 16000000 in
theorem cellsAll (w : World) (ao : Option Addr) (len cap : Nat) (xs : List Int) (hx : ArgBytes w ao len cap xs) (hl : len ≤ 200) :
    Calls Try.prog 11 #[.slice ao len cap] w (CellsNew w) := by
  obtain ⟨i0, hi, hz0, hz1, hz2⟩ := info_parts infoInt64
  have HI := Lib.hid hi
  have H0 := Lib.hid hz0
  have H1 := Lib.hid hz1
  have H2 := Lib.hid hz2
  clear hi hz0 hz1 hz2
  have HX := Lib.hid hx
  have HF := Lib.hid (fun (W : World) (hb : Below w.heap.size w W) (i : Int) (i0 : 0 ≤ i) (i1 : i ≤ 100000) => func8Any hx hb hl i i0 i1)
  clear hx
  go_enter Try.func11, Try.ntmps11
  go_upto_if 13 with (fail)
  go_cut [3] from 14 to 18 (fun n wx => ∃ m : Nat, n = .int .i64 (m : Int) ∧ m ≤ 6 ∧ Hid (w = wx))
  case first =>
    by_cases h0 : 0 < len
    · have hzl := HX.out.1.1
      obtain ⟨b, off, rfl, lb, hc⟩ := HX.out.1.2 (by omega)
      have c0 := hc 0 h0
      rw [Nat.add_zero] at c0
      have hq := HX.out.2.2.2 (xs.getD 0 0) (by simp [List.getD, hzl, h0])
      clear hc
      generalize xs.getD 0 0 = q at *
      obtain ⟨q0, q1⟩ := hq
      have d0 : (0 : Int) < len := by omega
      go_wp2
      go_meet
      exact ⟨(q % 7).toNat, by rw [Int.toNat_of_nonneg (by omega)], by omega, rfl⟩
    · obtain rfl : len = 0 := by omega
      go_wp2
      go_meet
      exact ⟨0, rfl, by omega, rfl⟩
  case' rest => skip
  obtain ⟨n, rfl, hn6, hwc⟩ := hcut
  have hwc : w = wc := hwc
  subst hwc
  go_wp2_with fail
  refine (HF.out w (Below.refl _ _) 1 (by omega) (by omega)).mono ?_
  rintro e w' ⟨⟨t, rfl, t0, t1⟩, rfl⟩
  go_wp2_with fail
  refine (HF.out w (Below.refl _ _) 2 (by omega) (by omega)).mono ?_
  rintro e w' ⟨⟨q, rfl, q0, q1⟩, rfl⟩
  go_upto_region 6 with (fail)
  generalize hW : w.alloc (.cells #[.int .i64 (t % 3), .int .i64 0, .int .i64 (q % 20)] 2) = W
  have HW := Lib.hid (show W.heap[w.heap.size]? = some (Obj.cells #[.int .i64 (t % 3), .int .i64 0, .int .i64 (q % 20)] 2 (0, 0)) by subst hW; exact heap_alloc_new w _)
  have HB := Lib.hid (show Below w.heap.size w W by subst hW; exact (Below.refl _ _).alloc (Nat.le_refl _) _)
  clear hW
  go_cut [33] from 27 to 32 (fun c wx => ∃ b : Bool, c = .bool b ∧ (b = true → 0 < n ∧ 0 < t % 5) ∧ Hid (W = wx))
  case first =>
    rcases (show ¬ 0 < n ∨ (0 < n ∧ t % 5 = 0) ∨ (0 < n ∧ 0 < t % 5) from by omega) with h | ⟨h, h'⟩ | ⟨h, h'⟩
    · obtain rfl : n = 0 := by omega
      go_wp2
      go_meet
      exact ⟨false, rfl, by simp, rfl⟩
    · have h0 : (0 : Int) < n := by omega
      go_wp2
      go_meet
      exact ⟨false, rfl, by simp, rfl⟩
    · have h0 : (0 : Int) < n := by omega
      go_wp2
      go_meet
      exact ⟨true, rfl, fun _ => ⟨h, h'⟩, rfl⟩
  case' rest => skip
  obtain ⟨b, rfl, hb, hwx⟩ := hcut
  have HBB := Lib.hid hb
  have hwx : W = wc := hwx
  subst hwx
  have c1 : W.cell? ⟨w.heap.size, 1, none⟩ = some (.int .i64 0) := by unfold World.cell?; simp only [HW.out]; rfl
  have cf : W.frozen? ⟨w.heap.size, 1, none⟩ = false := by unfold World.frozen?; simp only [HW.out]; simp
  go_upto_if 33 with (fail)
  go_cut [] from 34 to 40 (fun wx => Hid (∃ y : Int, OwnL w (.slice (some ⟨w.heap.size, 0, none⟩) 3 3) [t % 3, y, q % 20] wx))
  case first =>
    cases b with
    | false =>
      go_wp2
      go_meet
      refine ⟨0, rowOf (Nat.le_refl _) rfl (by decide) HW.out, HB.out⟩
    | true =>
      obtain ⟨n0, t0'⟩ := HBB.out rfl
      have h0 : (0 : Int) < n := by omega
      have hm0 : 0 ≤ t % (n : Int) := Int.emod_nonneg _ (by omega)
      have hm1 : t % (n : Int) < n := Int.emod_lt_of_pos _ h0
      go_wp2
      go_meet
      refine ⟨3 + 5 * (t % (n : Int)), rowOf (Nat.le_refl _) rfl (by decide) ?_, HB.out.setCell (Nat.le_refl _) _⟩
      rw [heap_setCell_same W w.heap.size 1 _ _ _ HW.out]
      rfl
  case' rest => skip
  obtain ⟨y, hO⟩ := hcut
  have HOW := Lib.hid hO
  clear hO HW HB c1 cf HBB hb
  go_wp2
  go_loopw [5, 6] (fun v i wr => CellsRel w n v i wr) (fun _ i _ => n - (intOf i).toNat)
  case atStart => exact ⟨0, _, by omega, rfl, rfl, HOW.out⟩
  case round =>
    obtain ⟨k, zs, hk, rfl, hzn, hO⟩ := hrel
    have HO := Lib.hid hO
    have HN := Lib.hid hzn
    obtain ⟨aq, cq, rfl⟩ := ownShape hO.1
    clear hO HOW hzn
    by_cases hlt : k < n
    · have k0 : (k : Int) < n := by omega
      go_wp2_with fail
      refine (HF.out wr HO.out.2 _ (by omega) (by omega)).mono ?_
      rintro e w' ⟨⟨x, rfl, x0, x1⟩, rfl⟩
      go_wp2_with fail
      refine (HF.out wr HO.out.2 _ (by omega) (by omega)).mono ?_
      rintro e w' ⟨⟨yv, rfl, y0, y1⟩, rfl⟩
      go_upto_if 58 with (fail)
      go_cut [9] from 57 to 64 (fun d wx => ∃ g : Int, d = .int .i64 g ∧ Hid (wr = wx))
      case first =>
        by_cases h5 : 0 < x % 5
        · have hm0 : 0 ≤ x / 5 % (n : Int) := Int.emod_nonneg _ (by omega)
          have hm1 : x / 5 % (n : Int) < n := Int.emod_lt_of_pos _ (by omega)
          go_wp2
          go_meet
          exact ⟨_, rfl, rfl⟩
        · have h5' : x % 5 = 0 := by omega
          go_wp2
          go_meet
          exact ⟨_, rfl, rfl⟩
      case' rest => skip
      obtain ⟨g, rfl, hwr⟩ := hcut
      have hwr : wr = wc := hwr
      subst hwr
      go_upto_if 66 with (fail)
      go_cut [9] from 66 to 67 (fun d wx => ∃ g : Int, d = .int .i64 g ∧ Hid (wr = wx))
      case first =>
        rcases (show (x == 77) = true ∨ (x == 77) = false by cases (x == 77) <;> simp) with h7 | h7
        · go_wp2
          go_meet
          exact ⟨_, rfl, rfl⟩
        · go_wp2
          go_meet
          exact ⟨_, rfl, rfl⟩
      case' rest => skip
      obtain ⟨g2v, rfl, hwr⟩ := hcut
      have hwr : wr = wc := hwr
      subst hwr
      go_upto_region 19 with (fail)
      generalize yv % 4 - 1 = r at *
      go_wp2_with fail
      refine (HF.out wr HO.out.2 _ (by omega) (by omega)).mono ?_
      rintro e w' ⟨⟨b1, rfl, _, _⟩, rfl⟩
      go_wp2_with fail
      refine (HF.out wr HO.out.2 _ (by omega) (by omega)).mono ?_
      rintro e w' ⟨⟨b2, rfl, _, _⟩, rfl⟩
      go_wp2_with (at_builtin; refine wpList_append_later rfl (.tmp 71) (.tmp 89) 22 rfl w.heap.size 2 i0 (.int .i64 0) 1 8 Try.underlying22 HI.out H0.out H1.out H2.out rfl (by decide) _ _ _ rfl (HO.out.1.alloc _) ⟨wr.heap.size, 0, none⟩ 5 5 ([r, b1 % 4 % 3, b2 % 20, g2v, x * 300].map (Value.int .i64)) rfl (by simp) (cells5 wr [r, b1 % 4 % 3, b2 % 20, g2v, x * 300]) (ints_oneCell _ _) (by have := HN.out; simp only [maxLen]; omega) (by have := HN.out; omega) (Nat.le_trans HO.out.2.size (by simp)) ?_; intro v' w2 o2 g2 _; have HN2 := Lib.hid (OwnL.next HO.out ((Below.refl wr.heap.size wr).alloc (Nat.le_refl _) _) (ys := [r, b1 % 4 % 3, b2 % 20, g2v, x * 300]) o2 g2); clear o2 g2)
      go_roundw
      case rel => exact ⟨k + 1, _, by omega, by go_num, by have := HN.out; simp; omega, HN2.out⟩
      case measure => simp [intOf]; omega
    · obtain rfl : k = n := by omega
      by_cases h3 : (len : Int) % 3 = 2
      · have e3 : (((len : Int) % 3) == 2) = true := by simpa using h3
        go_wp2_with (at_builtin; refine wpList_append_later rfl (.tmp 95) (.tmp 96) 22 rfl w.heap.size 2 i0 (.int .i64 0) 1 8 Try.underlying22 HI.out H0.out H1.out H2.out rfl (by decide) _ _ _ rfl (HO.out.1.alloc _) ⟨wr.heap.size, 0, none⟩ 2 2 ([(1 : Int), 2].map (Value.int .i64)) rfl (by simp) (cells5 wr [1, 2]) (ints_oneCell _ _) (by have := HN.out; simp only [maxLen]; omega) (by have := HN.out; omega) (Nat.le_trans HO.out.2.size (by simp)) ?_; intro v' w2 o2 g2 _; have HN2 := Lib.hid (OwnL.next HO.out ((Below.refl wr.heap.size wr).alloc (Nat.le_refl _) _) (ys := [1, 2]) o2 g2); clear o2 g2)
        obtain ⟨a2, c2, e2⟩ := ownShape HN2.out.1
        subst e2
        go_ret
        exact ⟨a2, c2, _, rfl, by have := HN.out; simp; omega, HN2.out⟩
      · have e3 : (((len : Int) % 3) == 2) = false := by simpa using h3
        go_wp2
        go_ret
        exact ⟨aq, cq, zs, rfl, by have := HN.out; omega, HO.out⟩

end Go.Proofs.Ythefdglocnalhaa.M2
