/-
  What Pairs of package match answers. Conditions: operations that lie in memory, at most a million.
-/
import Derived.Test.YtephmkekgmpnpaaPairs9
import Derived.Deep.CutRange
namespace Go.Proofs.Ytephmkekgmpnpaa
open Go.RowKit

theorem infoU8 : (Try.prog.info? 5).map (fun i => (i.zero, i.size, i.bytes)) = some (some (.int .u8 0), 1, 1) := by kernel_rfl

theorem madeRow {w w1 : World} {n : Nat} {k : IntKind} {t : TypeId} (ho : w1.ownsRow w.heap.size t 1 (.slice (some ⟨w.heap.size, 0, none⟩) n n) n (madeCells (Value.int k 0).cells (n * 1)).toList) (hg : w.grownBy w1 none) :
    Rw w1 w.heap.size k t (List.replicate n 0) ∧ Below w.heap.size w w1 := by
  have hr := rowWhole ho
  rw [show (Value.int k 0).cells = #[Value.int k 0] from rfl, Nat.mul_one, toList_madeCells_one] at hr
  exact ⟨by unfold Rw; rw [hr]; simp, (Below.refl _ _).grown hg (Nat.le_refl _) (by simp)⟩

/-- What Pairs leaves. -/
def PairsPost (w : World) (most there : Int) (ks : Nat → Int) (n : Nat) (e : Ending) (w' : World) : Prop :=
  ∃ gw gc, e = .returned (.tuple #[.slice (some ⟨gw, 0, none⟩) n n, .slice (some ⟨gc, 0, none⟩) n n]) ∧ Rw w' gw .i64 3 (pairsL most there ks n) ∧ Rw w' gc .u8 5 (codesL most there ks n) ∧ w.heap.size ≤ gw ∧ w.heap.size ≤ gc ∧ gw ≠ gc ∧ Below w.heap.size w w'

/-- The first loop: k places are written. -/
def PFill (w : World) (gw Bw n k : Nat) (wr : World) : Prop :=
  SBx wr Bw 34 gw n ∧ Rw wr gw .i64 3 (List.replicate k (-1) ++ List.replicate (n - k) 0) ∧ w.heap.size ≤ gw ∧ gw < Bw ∧ Below w.heap.size w wr
theorem PFill.start {w w2 V : World} {n : Nat} (h : Rw w2 w.heap.size .i64 3 (List.replicate n 0)) (hb : Below w.heap.size w w2) (hV : w2.alloc (.cells #[.slice (some ⟨w.heap.size, 0, none⟩) n n] 34) = V) : PFill w w.heap.size w2.heap.size n 0 V := by
  subst hV
  exact ⟨SBx.new _ _ _ _, by simpa using h.keep (Below.heap_alloc _ _ _ h.lt), Nat.le_refl _, h.lt, hb.alloc hb.size _⟩
theorem PFill.next {w wr : World} {gw Bw n k : Nat} (h : PFill w gw Bw n k wr) (hk : k < n) : PFill w gw Bw n (k + 1) (wr.setCell ⟨gw, k, none⟩ (.int .i64 (-1))) := by
  obtain ⟨h1, h2, h3, h4, h5⟩ := h
  have hw : Wrote (fun g => g = gw) wr (wr.setCell ⟨gw, k, none⟩ (.int .i64 (-1))) := (Wrote.refl (fun g => g = gw) wr).setCell (q := ⟨gw, k, none⟩) (.inr rfl) _
  refine ⟨h1.keep (hw.block _ h1.lt (by omega)), ?_, h3, h4, h5.trans (hw.below h5.size (fun g hg => by omega))⟩
  have := h2.set k (-1)
  rw [List.set_append_right _ _ (by simp), List.length_replicate, Nat.sub_self, show n - k = (n - (k + 1)) + 1 by omega, List.replicate_succ, List.set_cons_zero] at this
  rw [List.replicate_succ' (n := k)]
  simpa using this

/-- Ahead of the first operation. -/
theorem PFill.all {w wr w3 V : World} {gw Bw n : Nat} {most there : Int} {ks : Nat → Int} (h : PFill w gw Bw n n wr) (hr : Rw w3 wr.heap.size .u8 5 (List.replicate n 0)) (hb : Below wr.heap.size wr w3) (hV : w3.alloc (.cells #[.slice (some ⟨wr.heap.size, 0, none⟩) n n] 23) = V) :
    PI most there ks n Bw w3.heap.size gw wr.heap.size 0 0 (fun g => w.heap.size ≤ g ∧ g < V.heap.size) V ∧ Below w.heap.size w V ∧ gw ≠ wr.heap.size ∧ w.heap.size ≤ gw ∧ w.heap.size ≤ wr.heap.size := by
  obtain ⟨h1, h2, h3, h4, h5⟩ := h
  have hbV : Below w3.heap.size w3 V := by rw [← hV]; exact (Below.refl _ _).alloc (Nat.le_refl _) _
  have hz : V.heap.size = w3.heap.size + 1 := by rw [← hV]; simp
  have hs3 := hr.lt
  have l1 := h1.lt
  have l2 := h2.lt
  have hw := h5.size
  have hwV : Below wr.heap.size wr V := hb.trans (hbV.mono (by omega))
  refine ⟨⟨?_, fun g hg => hg.2, h1.keep (hwV.block _ l1), by rw [← hV]; exact SBx.new _ _ _ _, ?_, ?_⟩, h5.trans (hwV.mono hw), by omega, h3, hw⟩
  · rintro g (rfl | rfl | rfl | rfl) <;> constructor <;> omega
  · have := h2.keep (hwV.block _ l2)
    rw [Nat.sub_self] at this
    rw [pairsK_none]
    simpa using this
  · rw [codesK_none]
    exact hr.keep (hbV.block _ hs3)

theorem haveOf_cases (x m : Int) (hm : 0 ≤ m) : ((x < 0 ∧ m = 0) ∧ haveOf x m = 0) ∨ ((x < 0 ∧ 0 < m) ∧ haveOf x m = 0) ∨ ((x = 0 ∧ m = 0) ∧ haveOf x m = 0) ∨ ((x = 0 ∧ 0 < m) ∧ haveOf x m = 0) ∨ ((0 < x ∧ x < m) ∧ haveOf x m = x) ∨ ((0 < x ∧ x = m) ∧ haveOf x m = x) ∨ ((0 < m ∧ m < x) ∧ haveOf x m = m) ∨ ((m = 0 ∧ 0 < x) ∧ haveOf x m = 0) := by
  unfold haveOf
  rcases (show (x < 0 ∧ m = 0) ∨ (x < 0 ∧ 0 < m) ∨ (x = 0 ∧ m = 0) ∨ (x = 0 ∧ 0 < m) ∨ (0 < x ∧ x < m) ∨ (0 < x ∧ x = m) ∨ (0 < m ∧ m < x) ∨ (m = 0 ∧ 0 < x) from by omega) with h | h | h | h | h | h | h | h
  · left; exact ⟨h, if_pos h.1⟩
  · right; left; exact ⟨h, if_pos h.1⟩
  · right; right; left; exact ⟨h, by rw [if_neg (by omega), if_neg (by omega)]; exact h.1⟩
  · right; right; right; left; exact ⟨h, by rw [if_neg (by omega), if_neg (by omega)]; exact h.1⟩
  · right; right; right; right; left; exact ⟨h, by rw [if_neg (by omega), if_neg (by omega)]⟩
  · right; right; right; right; right; left; exact ⟨h, by rw [if_neg (by omega), if_neg (by omega)]⟩
  · right; right; right; right; right; right; left; exact ⟨h, by rw [if_neg (by omega), if_pos h.2]⟩
  · right; right; right; right; right; right; right; exact ⟨h, by rw [if_neg (by omega), if_pos (by omega)]; exact h.1⟩

theorem mostOf_cases (m : Int) : (m < 0 ∧ mostOf m = 0) ∨ (m = 0 ∧ mostOf m = 0) ∨ ((0 < m ∧ m < 1000) ∧ mostOf m = m) ∨ (m = 1000 ∧ mostOf m = 1000) ∨ (1000 < m ∧ mostOf m = 1000) := by
  unfold mostOf
  rcases (show m < 0 ∨ m = 0 ∨ (0 < m ∧ m < 1000) ∨ m = 1000 ∨ 1000 < m from by omega) with h | h | h | h | h
  · left; exact ⟨h, if_pos h⟩
  · subst h; right; left; exact ⟨rfl, rfl⟩
  · right; right; left; exact ⟨h, by rw [if_neg (by omega), if_neg (by omega)]⟩
  · subst h; right; right; right; left; exact ⟨rfl, rfl⟩
  · right; right; right; right; exact ⟨h, by rw [if_neg (by omega), if_pos h]⟩

theorem pairsDone {w V w5 : World} {most there : Int} {ks : Nat → Int} {n Bw Bc gw gc : Nat} {G' : Nat → Prop} (hb : Below w.heap.size w V) (h : PI most there ks n Bw Bc gw gc n n G' w5) (hw : Wrote (fun g => w.heap.size ≤ g ∧ g < V.heap.size) V w5) (hne : gw ≠ gc) (h1 : w.heap.size ≤ gw) (h2 : w.heap.size ≤ gc) (q : Nat) :
    PairsPost w most there ks n (.returned (.tuple #[.slice (some ⟨gw, 0, none⟩) n n, .slice (some ⟨gc, 0, none⟩) n n])) (w5.drewN q) := by
  obtain ⟨_, _, _, _, h5, h6⟩ := h
  rw [pairsK_all] at h5
  rw [codesK_all] at h6
  exact ⟨gw, gc, rfl, h5, h6, h1, h2, hne, below_drewN (hb.trans (hw.below hb.size (fun g hg => hg.1))) q⟩

set_option maxRecDepth 100000 in
set_option maxHeartbeats 8000000 in
theorem pairsAny (w : World) (x most : Int) (ao : Option Addr) (n cap : Nat) (os : List (Int × Int)) (ho : OpsAt w ao n os) (hn : n ≤ 1000000) :
    Calls Try.prog 16 #[.int .i64 x, .int .i64 most, .slice ao n cap] w (PairsPost w (mostOf most) (haveOf x (mostOf most)) (kindsOf os) n) := by
  obtain ⟨i0, hi, hz0, hz1, hz2⟩ := info_parts infoI
  obtain ⟨j0, hj, hy0, hy1, hy2⟩ := info_parts infoU8
  have HO := Lib.hid ho
  clear ho
  go_enter Try.func16, Try.ntmps16
  go_upto_region 3 with (at_make; refine wpList_make_full _ rfl _ _ 34 rfl w.heap.size 3 i0 _ 1 Try.underlying34 hi hz0 hz1 .i64 .i64 _ _ n rfl rfl rfl rfl (by rw [hz2]; omega) (by simp only [maxLen]; omega) (Nat.le_refl _) ?_; intro w2 hown2 hgrow2; have HM := Lib.hid (madeRow hown2 hgrow2); clear hown2 hgrow2)
  generalize hV : w2.alloc (.cells #[.slice (some ⟨w.heap.size, 0, none⟩) n n] 34) = V
  have HP := Lib.hid (PFill.start HM.out.1 HM.out.2 hV)
  have c := HP.out.1.cell
  clear hV HM
  generalize w2.heap.size = Bw at *
  obtain ⟨gw, hgw⟩ : ∃ gw, w.heap.size = gw := ⟨_, rfl⟩
  simp only [hgw] at c ⊢
  have HP2 := Lib.hid (show PFill w gw Bw n 0 V by rw [← hgw]; exact HP.out)
  clear HP hgw
  go_wp2
  clear c
  go_loopw [16] (fun i wr => ∃ k : Nat, k ≤ n ∧ i = .int .i64 k ∧ Hid (PFill w gw Bw n k wr)) (fun i _ => n - (intOf i).toNat)
  case atStart => exact ⟨0, Nat.zero_le _, rfl, HP2⟩
  case round =>
    obtain ⟨k, hk, rfl, hp⟩ := hrel
    clear HP2
    by_cases hlt : k < n
    · have c := hp.out.1.cell
      have c1 := hp.out.2.1.cell (i := k) (by simp; omega)
      have f1 := hp.out.2.1.free k
      generalize (List.replicate k (-1 : Int) ++ List.replicate (n - k) 0).getD k 0 = z at *
      have i1 : (k : Int) < (n : Int) := by omega
      have HN := Lib.hid (hp.out.next hlt)
      clear hp
      go_wp2
      go_roundw
      case rel => exact ⟨k + 1, by omega, by go_num, HN⟩
      case measure => simp [intOf]; omega
    · obtain rfl : k = n := by omega
      have HP := hp
      clear hp hlt
      go_upto_region 8 with (at_make; refine wpList_make_full _ rfl _ _ 23 rfl wr.heap.size 5 j0 _ 1 Try.underlying23 hj hy0 hy1 .i64 .i64 _ _ k rfl rfl rfl rfl (by rw [hy2]; omega) (by simp only [maxLen]; omega) (Nat.le_refl _) ?_; intro w3 hown3 hgrow3; have HM := Lib.hid (madeRow hown3 hgrow3); clear hown3 hgrow3)
      generalize hV3 : w3.alloc (.cells #[.slice (some ⟨wr.heap.size, 0, none⟩) k k] 23) = V3
      have HQ := Lib.hid (fun (m t : Int) => HP.out.all (most := m) (there := t) (ks := kindsOf os) HM.out.1 HM.out.2 hV3)
      clear hV3 HM HP
      generalize w3.heap.size = Bc at *
      generalize wr.heap.size = gc at *
      go_cut [1] from 26 to 28 (fun s wx => s = .int .i64 (mostOf most) ∧ V3 = wx)
      case first =>
        rcases mostOf_cases most with ⟨h, he⟩ | ⟨h, he⟩ | ⟨h, he⟩ | ⟨h, he⟩ | ⟨h, he⟩
        · have HE := Lib.hid he
          have h2 : ¬ 0 < most := by omega
          have h3 : ¬ 0 ≤ most := by omega
          clear he
          go_wp2_with fail
          go_meet
          exact ⟨by rw [HE.out], rfl⟩
        · subst h
          have HE := Lib.hid he
          clear he
          go_wp2_with fail
          go_meet
          exact ⟨by rw [HE.out], rfl⟩
        · obtain ⟨h1, h2⟩ := h
          have HE := Lib.hid he
          clear he
          have h3 : ¬ most < 0 := by omega
          have h4 : ¬ 1000 < most := by omega
          go_wp2_with fail
          go_meet
          exact ⟨by rw [HE.out], rfl⟩
        · subst h
          have HE := Lib.hid he
          clear he
          go_wp2_with fail
          go_meet
          exact ⟨by rw [HE.out], rfl⟩
        · have HE := Lib.hid he
          clear he
          have h2 : ¬ most < 0 := by omega
          have h3 : ¬ most < 1000 := by omega
          go_wp2_with fail
          go_meet
          exact ⟨by rw [HE.out], rfl⟩
      case' rest => skip
      obtain ⟨rfl, rfl⟩ := hcut
      have hm := mostOf_in most
      generalize mostOf most = m at *
      obtain ⟨m0, m1⟩ := hm
      have HQ0 := Lib.hid (HQ.out m (haveOf x m))
      have hh := haveOf_in x m m0
      have C := throughAny (pairsHooks V3.heap.size hh.1 hh.2 m1 HQ0.out.2.2.1) ao cap os (HO.out.keep HQ0.out.2.1) (fun hp a ha hg => by
        obtain ⟨b, off, e, hb, _⟩ := HO.out.2 hp
        rw [e] at ha
        injection ha with ha
        subst ha
        exact absurd hg.1 (show ¬ w.heap.size ≤ b by omega)) (fun _ _ => rfl) hn (Nat.le_refl _) ⟨Nat.zero_le _, HQ0.out.1⟩
      unfold tellsV at C
      clear HQ hh
      rcases haveOf_cases x m m0 with ⟨h, he⟩ | ⟨h, he⟩ | ⟨h, he⟩ | ⟨h, he⟩ | ⟨h, he⟩ | ⟨h, he⟩ | ⟨h, he⟩ | ⟨h, he⟩
      · obtain ⟨h1, h2⟩ := h
        subst h2
        have HE := Lib.hid he
        clear he
        rw [HE.out] at C
        have h3 : ¬ 0 < x := by omega
        have h4 : ¬ 0 ≤ x := by omega
        clear h1
        go_wp2_with ((with_reducible refine C.mono ?_); rintro e w5 ⟨rfl, G', pi, wr5, lt5⟩; have d1 := pi.2.2.1.cell; have d2 := pi.2.2.2.1.cell; have HPI := Lib.hid pi; have HW5 := Lib.hid wr5; clear pi wr5 lt5)
        go_quiet (fail)
        go_wp2
        go_ret2
        rw [HE.out]
        exact pairsDone HQ0.out.2.1 HPI.out HW5.out HQ0.out.2.2.1 HQ0.out.2.2.2.1 HQ0.out.2.2.2.2 _
      · obtain ⟨h1, h2⟩ := h
        have HE := Lib.hid he
        clear he
        rw [HE.out] at C
        have h3 : ¬ 0 < x := by omega
        have h4 : ¬ 0 ≤ x := by omega
        have h5 : ¬ m < 0 := by omega
        go_wp2_with ((with_reducible refine C.mono ?_); rintro e w5 ⟨rfl, G', pi, wr5, lt5⟩; have d1 := pi.2.2.1.cell; have d2 := pi.2.2.2.1.cell; have HPI := Lib.hid pi; have HW5 := Lib.hid wr5; clear pi wr5 lt5)
        go_quiet (fail)
        go_wp2
        go_ret2
        rw [HE.out]
        exact pairsDone HQ0.out.2.1 HPI.out HW5.out HQ0.out.2.2.1 HQ0.out.2.2.2.1 HQ0.out.2.2.2.2 _
      · obtain ⟨h1, h2⟩ := h
        subst h1 h2
        have HE := Lib.hid he
        clear he
        rw [HE.out] at C
        go_wp2_with ((with_reducible refine C.mono ?_); rintro e w5 ⟨rfl, G', pi, wr5, lt5⟩; have d1 := pi.2.2.1.cell; have d2 := pi.2.2.2.1.cell; have HPI := Lib.hid pi; have HW5 := Lib.hid wr5; clear pi wr5 lt5)
        go_quiet (fail)
        go_wp2
        go_ret2
        rw [HE.out]
        exact pairsDone HQ0.out.2.1 HPI.out HW5.out HQ0.out.2.2.1 HQ0.out.2.2.2.1 HQ0.out.2.2.2.2 _
      · obtain ⟨h1, h2⟩ := h
        subst h1
        have HE := Lib.hid he
        clear he
        rw [HE.out] at C
        have h5 : ¬ m < 0 := by omega
        go_wp2_with ((with_reducible refine C.mono ?_); rintro e w5 ⟨rfl, G', pi, wr5, lt5⟩; have d1 := pi.2.2.1.cell; have d2 := pi.2.2.2.1.cell; have HPI := Lib.hid pi; have HW5 := Lib.hid wr5; clear pi wr5 lt5)
        go_quiet (fail)
        go_wp2
        go_ret2
        rw [HE.out]
        exact pairsDone HQ0.out.2.1 HPI.out HW5.out HQ0.out.2.2.1 HQ0.out.2.2.2.1 HQ0.out.2.2.2.2 _
      · obtain ⟨h1, h2⟩ := h
        have HE := Lib.hid he
        clear he
        rw [HE.out] at C
        have h3 : ¬ x < 0 := by omega
        have h4 : ¬ m < x := by omega
        go_wp2_with ((with_reducible refine C.mono ?_); rintro e w5 ⟨rfl, G', pi, wr5, lt5⟩; have d1 := pi.2.2.1.cell; have d2 := pi.2.2.2.1.cell; have HPI := Lib.hid pi; have HW5 := Lib.hid wr5; clear pi wr5 lt5)
        go_quiet (fail)
        go_wp2
        go_ret2
        rw [HE.out]
        exact pairsDone HQ0.out.2.1 HPI.out HW5.out HQ0.out.2.2.1 HQ0.out.2.2.2.1 HQ0.out.2.2.2.2 _
      · obtain ⟨h1, h2⟩ := h
        subst h2
        have HE := Lib.hid he
        clear he
        rw [HE.out] at C
        have h3 : ¬ x < 0 := by omega
        go_wp2_with ((with_reducible refine C.mono ?_); rintro e w5 ⟨rfl, G', pi, wr5, lt5⟩; have d1 := pi.2.2.1.cell; have d2 := pi.2.2.2.1.cell; have HPI := Lib.hid pi; have HW5 := Lib.hid wr5; clear pi wr5 lt5)
        go_quiet (fail)
        go_wp2
        go_ret2
        rw [HE.out]
        exact pairsDone HQ0.out.2.1 HPI.out HW5.out HQ0.out.2.2.1 HQ0.out.2.2.2.1 HQ0.out.2.2.2.2 _
      · obtain ⟨h1, h2⟩ := h
        have HE := Lib.hid he
        clear he
        rw [HE.out] at C
        have h3 : ¬ x < 0 := by omega
        have h4 : ¬ x < m := by omega
        have h5 : 0 < x := by omega
        go_wp2_with ((with_reducible refine C.mono ?_); rintro e w5 ⟨rfl, G', pi, wr5, lt5⟩; have d1 := pi.2.2.1.cell; have d2 := pi.2.2.2.1.cell; have HPI := Lib.hid pi; have HW5 := Lib.hid wr5; clear pi wr5 lt5)
        go_quiet (fail)
        go_wp2
        go_ret2
        rw [HE.out]
        exact pairsDone HQ0.out.2.1 HPI.out HW5.out HQ0.out.2.2.1 HQ0.out.2.2.2.1 HQ0.out.2.2.2.2 _
      · obtain ⟨h1, h2⟩ := h
        subst h1
        have HE := Lib.hid he
        clear he
        rw [HE.out] at C
        have h3 : ¬ x < 0 := by omega
        have h4 : ¬ x ≤ 0 := by omega
        go_wp2_with ((with_reducible refine C.mono ?_); rintro e w5 ⟨rfl, G', pi, wr5, lt5⟩; have d1 := pi.2.2.1.cell; have d2 := pi.2.2.2.1.cell; have HPI := Lib.hid pi; have HW5 := Lib.hid wr5; clear pi wr5 lt5)
        go_quiet (fail)
        go_wp2
        go_ret2
        rw [HE.out]
        exact pairsDone HQ0.out.2.1 HPI.out HW5.out HQ0.out.2.2.1 HQ0.out.2.2.2.1 HQ0.out.2.2.2.2 _

end Go.Proofs.Ytephmkekgmpnpaa
