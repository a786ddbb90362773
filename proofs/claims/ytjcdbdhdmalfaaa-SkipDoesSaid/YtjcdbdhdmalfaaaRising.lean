/-
  What Rising of the statements' package tells: values and heights, in new memory. Conditions: bytes that lie in memory.
-/
import Derived.Test.YtjcdbdhdmalfaaaArgs7
namespace Go.Proofs.Ytjcdbdhdmalfaaa
open Go.RowKit

theorem infoInt : (Try.prog.info? 3).map (fun i => (i.zero, i.size, i.bytes)) = some (some (.int .i64 0), 1, 8) := by kernel_rfl

/-- A row whose elements are of another type is not touched by an append. -/
theorem rowKept {W W' : World} {b1 b2 s1 s2 n1 n2 : Nat} {e1 e2 : TypeId} {v1 v2 : Value} {xs1 xs2 : List Value} {o : Obj} (h2 : W.ownsRow b2 e2 s2 v2 n2 xs2) (h1 : W.ownsRow b1 e1 s1 v1 n1 xs1) (hne : e1 ≠ e2) (hg : (W.alloc o).grownBy W' v1.ownBlock) : W'.ownsRow b2 e2 s2 v2 n2 xs2 := by
  refine own_keep h2 fun g hv => ?_
  obtain ⟨_, h2' | ⟨g2, cap2, cur2, e2', _, hg2, _⟩⟩ := h2
  · rw [h2'.1] at hv; simp [Value.ownBlock] at hv
  · rw [e2'] at hv
    simp only [Value.ownBlock, Option.some.injEq] at hv
    subst hv
    have hlt := lt_of_block hg2
    refine (hg.block g2 (by simp; omega) fun e => ?_).trans (Below.heap_alloc _ _ _ hlt)
    obtain ⟨_, h1' | ⟨g1, cap1, cur1, e1', _, hg1, _⟩⟩ := h1
    · rw [h1'.1] at e; simp [Value.ownBlock] at e
    · rw [e1'] at e
      simp only [Value.ownBlock, Option.some.injEq] at e
      subst e
      rw [hg2] at hg1
      injection hg1 with hg1
      injection hg1 with _ hg1
      exact hne hg1.symm

def RisingPost (w : World) (e : Ending) (w' : World) : Prop :=
  ∃ (a : Option Addr) (nv capv : Nat) (b : Option Addr) (nh caph : Nat) (vs hs : List Int), e = .returned (.tuple #[.slice a nv capv, .slice b nh caph]) ∧ Reads .i32 w' a nv vs ∧ Reads .i64 w' b nh hs ∧ nv ≤ capv ∧ nh ≤ caph ∧ nv ≤ 20 ∧ nh ≤ 15 ∧
    (∀ x, a = some x → w.heap.size ≤ x.block) ∧ (∀ x, b = some x → w.heap.size ≤ x.block) ∧ Below w.heap.size w w'

/-- What holds between two rounds of Rising. -/
def RiseRel (w : World) (k : Nat) (v1 v2 : Value) (W : World) : Prop :=
  (∃ xs : List Int, W.ownsRow w.heap.size 21 1 v1 k (xs.map (Value.int .i32))) ∧ (∃ ys : List Int, W.ownsRow w.heap.size 3 1 v2 (min k 15) (ys.map (Value.int .i64))) ∧ Below w.heap.size w W

theorem RiseRel.post {w W : World} {k : Nat} {v1 v2 : Value} (h : RiseRel w k v1 v2 W) (hk : k ≤ 20) : RisingPost w (.returned (.tuple #[v1, v2])) W := by
  obtain ⟨⟨xs, h1⟩, ⟨ys, h2⟩, hb⟩ := h
  obtain ⟨a, ca, rfl, r1, c1, b1⟩ := reads_own h1
  obtain ⟨b, cb, rfl, r2, c2, b2⟩ := reads_own h2
  exact ⟨a, _, _, b, _, _, xs, ys, rfl, r1, r2, c1, c2, by omega, by omega, b1, b2, hb⟩

/-- An append to the one row. -/
theorem RiseRel.one {w W w4 : World} {k : Nat} {v1 v2 v' : Value} {o : Obj} {xs : List Int} {y : Int} (h : RiseRel w k v1 v2 W) (h1 : W.ownsRow w.heap.size 21 1 v1 k (xs.map (Value.int .i32))) (hown : w4.ownsRow w.heap.size 21 1 v' (k + 1) (xs.map (Value.int .i32) ++ [.int .i32 y])) (hg : (W.alloc o).grownBy w4 v1.ownBlock) :
    (∃ xs : List Int, w4.ownsRow w.heap.size 21 1 v' (k + 1) (xs.map (Value.int .i32))) ∧ (∃ ys : List Int, w4.ownsRow w.heap.size 3 1 v2 (min k 15) (ys.map (Value.int .i64))) ∧ Below w.heap.size w w4 := by
  obtain ⟨_, ⟨ys, h2⟩, hb⟩ := h
  refine ⟨⟨xs ++ [y], by simpa using hown⟩, ⟨ys, rowKept h2 h1 (by decide) hg⟩, (hb.alloc hb.size o).grown hg (by simp; have := hb.size; omega) fun g e => ?_⟩
  obtain ⟨_, h1' | ⟨g1, cap1, cur1, e1', hb1, _⟩⟩ := h1
  · rw [h1'.1] at e; simp [Value.ownBlock] at e
  · rw [e1'] at e
    simp only [Value.ownBlock, Option.some.injEq] at e
    omega

/-- .. and then to the other one. -/
theorem riseTwo {w w4 w5 : World} {k : Nat} {v1 v2 v'' : Value} {o : Obj} {ys : List Int} {q : Int} (h : (∃ xs : List Int, w4.ownsRow w.heap.size 21 1 v1 (k + 1) (xs.map (Value.int .i32))) ∧ (∃ ys : List Int, w4.ownsRow w.heap.size 3 1 v2 (min k 15) (ys.map (Value.int .i64))) ∧ Below w.heap.size w w4)
    (h2 : w4.ownsRow w.heap.size 3 1 v2 k (ys.map (Value.int .i64))) (hk : k < 15) (hown : w5.ownsRow w.heap.size 3 1 v'' (k + 1) (ys.map (Value.int .i64) ++ [.int .i64 q])) (hg : (w4.alloc o).grownBy w5 v2.ownBlock) : RiseRel w (k + 1) v1 v'' w5 := by
  obtain ⟨⟨xs, h1⟩, _, hb⟩ := h
  refine ⟨⟨xs, rowKept h1 h2 (by decide) hg⟩, ⟨ys ++ [q], by rw [show min (k + 1) 15 = k + 1 by omega]; simpa using hown⟩, (hb.alloc hb.size o).grown hg (by simp; have := hb.size; omega) fun g e => ?_⟩
  obtain ⟨_, h1' | ⟨g1, cap1, cur1, e1', hb1, _⟩⟩ := h2
  · rw [h1'.1] at e; simp [Value.ownBlock] at e
  · rw [e1'] at e
    simp only [Value.ownBlock, Option.some.injEq] at e
    omega

set_option maxRecDepth 100000 in
set_option maxHeartbeats 8000000 in
theorem risingAny (w : World) (ao : Option Addr) (n cap : Nat) (zs : List Int) (h : Reads .u8 w ao n zs) (hz : ∀ z ∈ zs, 0 ≤ z ∧ z ≤ 255) :
    Calls Try.prog 12 #[.slice ao n cap] w (RisingPost w) := by
  have HZ := Lib.hid h
  have HL := Lib.hid h.1
  have HR := Lib.hid hz
  clear h hz
  obtain ⟨i0, hi, hz0, hz1, hz2⟩ := info_parts infoI32
  obtain ⟨i1, hj, hy0, hy1, hy2⟩ := info_parts infoInt
  go_enter Try.func12, Try.ntmps12
  go_wp2
  go_loopw [4, 5, 6, 7] (fun v1 v2 v i wr => ∃ (k : Nat) (y : Int), k ≤ n ∧ k ≤ 20 ∧ i = .int .i64 k ∧ v = .int .i32 y ∧ (-20 ≤ y ∧ y ≤ -20 + 4 * k) ∧ RiseRel w k v1 v2 wr) (fun _ _ _ i _ => n - (intOf i).toNat)
  case atStart => exact ⟨0, -20, Nat.zero_le _, Nat.zero_le _, rfl, rfl, by omega, ⟨[], by simpa using World.ownsRow_nil w w.heap.size 21 1⟩, ⟨[], by simpa using World.ownsRow_nil w w.heap.size 3 1⟩, Below.refl _ _⟩
  case round =>
    obtain ⟨k, y, hk, hk20, rfl, rfl, ⟨y0, y1⟩, hr⟩ := hrel
    have HRel := Lib.hid hr
    obtain ⟨⟨xs, hx⟩, ⟨ys, hyr⟩, hb⟩ := hr
    have HX := Lib.hid hx
    have HY := Lib.hid hyr
    have HB := Lib.hid hb
    clear hx hyr hb
    by_cases hlt : k < n
    · by_cases hlt20 : k < 20
      · obtain ⟨b, off, rfl, hbl, hc⟩ := HZ.out.2 (by omega)
        have cz := (HB.out.cell (p := ⟨b, off + k, none⟩) hbl).trans (hc k hlt)
        have hrz := HR.out (zs.getD k 0) (by simp [List.getD, show k < zs.length by rw [HL.out]; exact hlt])
        obtain ⟨r0, r1⟩ := hrz
        have k0 : (0 : Int) ≤ (k : Int) := by omega
        clear hc
        generalize zs.getD k 0 = z at *
        have HM1 := Lib.hid (show k + 1 ≤ maxLen by simp only [maxLen]; omega)
        have HM2 := Lib.hid (show (k + 1) * 4 ≤ 140737488355328 by omega)
        have HS := Lib.hid HB.out.size
        have HY2 := Lib.hid (show -20 ≤ y + z % 5 ∧ y + z % 5 ≤ -20 + 4 * ((k + 1 : Nat) : Int) by omega)
        have HRr := Lib.hid (HRel.out)
        go_upto_region 8 with (fail)
        generalize y + z % 5 = y2 at *
        have h15z : 0 ≤ z / 5 % 10 ∧ z / 5 % 10 ≤ 9 := by omega
        have HM3 := Lib.hid (show (k + 1) * 8 ≤ 140737488355328 by omega)
        have HCW := Lib.hid ((HB.out.cell (p := ⟨b, off + k, none⟩) hbl).symm.trans cz)
        by_cases h15 : k < 15
        · have HK := Lib.hid h15
          go_upto_region 9 with (at_builtin; refine wpList_append_own _ rfl _ _ 26 rfl w.heap.size 21 i0 _ 1 4 Try.underlying26 hi hz0 hz1 hz2 rfl (by decide) _ k _ rfl (HX.out.alloc _) ⟨wr.heap.size, 0, none⟩ 1 1 [.int .i32 y2] rfl rfl (cell_one_new _ _ _) (by simp [Value.oneCell']) HM1.out HM2.out (Nat.le_trans HS.out (by simp)) ?_; intro v' w4 hown' hgrow _; have HO := Lib.hid (HRr.out.one HX.out hown' hgrow); have cz4 := (HO.out.2.2.cell (p := ⟨b, off + k, none⟩) hbl).trans HCW.out; obtain ⟨g', cap', rfl⟩ := ownsRow_succ hown'; clear hown' hgrow)
          obtain ⟨ys4, hy4⟩ := HO.out.2.1
          rw [show min k 15 = k by omega] at hy4
          have HY4 := Lib.hid hy4
          clear hy4 cz HRr HRel
          go_upto_region 10 with (fail)
          go_wp2_with (at_builtin; refine wpList_append_own _ rfl _ _ 27 rfl w.heap.size 3 i1 _ 1 8 Try.underlying27 hj hy0 hy1 hy2 rfl (by decide) _ k _ rfl (HY4.out.alloc _) ⟨w4.heap.size, 0, none⟩ 1 1 [.int .i64 (z / 5 % 10)] rfl rfl (cell_one_new _ _ _) (by simp [Value.oneCell']) HM1.out HM3.out (Nat.le_trans HO.out.2.2.size (by simp)) ?_; intro v'' w5 hown'' hgrow2 _; have HP := Lib.hid (riseTwo HO.out HY4.out HK.out hown'' hgrow2); obtain ⟨g'', cap'', rfl⟩ := ownsRow_succ hown''; clear hown'' hgrow2)
          go_roundw
          case rel => exact ⟨k + 1, y2, by omega, by omega, by go_num, rfl, HY2.out, HP.out⟩
          case measure => simp [intOf]; omega
        · have h15' : ¬ (k : Int) < 15 := by omega
          go_wp2_with (at_builtin; refine wpList_append_own _ rfl _ _ 26 rfl w.heap.size 21 i0 _ 1 4 Try.underlying26 hi hz0 hz1 hz2 rfl (by decide) _ k _ rfl (HX.out.alloc _) ⟨wr.heap.size, 0, none⟩ 1 1 [.int .i32 y2] rfl rfl (cell_one_new _ _ _) (by simp [Value.oneCell']) HM1.out HM2.out (Nat.le_trans HS.out (by simp)) ?_; intro v' w4 hown' hgrow _; have HO := Lib.hid (HRr.out.one HX.out hown' hgrow); have cz4 := (HO.out.2.2.cell (p := ⟨b, off + k, none⟩) hbl).trans HCW.out; obtain ⟨g', cap', rfl⟩ := ownsRow_succ hown'; clear hown' hgrow)
          go_roundw
          case rel => exact ⟨k + 1, y2, by omega, by omega, by go_num, rfl, HY2.out, HO.out.1, by rw [show min (k + 1) 15 = min k 15 by omega]; exact HO.out.2.1, HO.out.2.2⟩
          case measure => simp [intOf]; omega
      · obtain rfl : k = 20 := by omega
        have HP := Lib.hid (HRel.out.post (by omega))
        have hd : (20 : Int) < (n : Int) := by omega
        go_wp2
        go_ret2
        exact HP.out
    · have hge : ¬ (k : Int) < n := by omega
      have HP := Lib.hid (HRel.out.post hk20)
      go_wp2
      go_ret2
      exact HP.out

end Go.Proofs.Ytjcdbdhdmalfaaa
