/-
  What reaperref07.Level tells. Conditions: a list of at most a thousand items, that lies in memory.
-/
import Derived.Test.YtmkpmnmllgdppaaRefI11m
namespace Go.Proofs.Ytmkpmnmllgdppaa
open Go.RowKit

theorem lvl_le {l : List It} {k : Int} : (lvlOf l k).length ≤ l.length := by unfold lvlOf; rw [List.length_map]; exact List.length_filter_le _ _

theorem lvl_take_in {l : List It} {k : Nat} {lv : Int} (hk : k < l.length) (h : 1 ≤ lv ∧ lv ≤ ((l.getD k ⟨0, 0⟩).h : Int)) : lvlOf (l.take (k + 1)) lv = lvlOf (l.take k) lv ++ [(l.getD k ⟨0, 0⟩).v] := by
  have e : l.getD k ⟨0, 0⟩ = l[k] := by simp [List.getD, hk]
  rw [e] at h ⊢
  unfold lvlOf
  rw [List.take_succ_eq_append_getElem hk, List.filter_append, List.map_append]
  simp [h]
theorem lvl_take_out {l : List It} {k : Nat} {lv : Int} (hk : k < l.length) (h : ¬ (1 ≤ lv ∧ lv ≤ ((l.getD k ⟨0, 0⟩).h : Int))) : lvlOf (l.take (k + 1)) lv = lvlOf (l.take k) lv := by
  have e : l.getD k ⟨0, 0⟩ = l[k] := by simp [List.getD, hk]
  rw [e] at h
  unfold lvlOf
  rw [List.take_succ_eq_append_getElem hk, List.filter_append, List.map_append]
  simp only [List.filter_cons, List.filter_nil, decide_eq_false h]
  simp
/-- Numbers in a row of one's own. -/
def NumsOwn (w : World) (zs : List Int) (v : Value) (W : World) : Prop := W.ownsRow w.heap.size 21 1 v zs.length (zs.map (Value.int .i32)) ∧ Below w.heap.size w W
theorem NumsOwn.none (w : World) : NumsOwn w [] (.slice none 0 0) w := ⟨World.ownsRow_nil _ _ _ _, Below.refl _ _⟩
theorem NumsOwn.more {w W w4 : World} {zs zs' : List Int} {y : Int} {v v' : Value} {o : Obj} (h : NumsOwn w zs v W) (e : zs' = zs ++ [y]) (q : w4.ownsRow w.heap.size 21 1 v' (zs.length + 1) (zs.map (Value.int .i32) ++ [.int .i32 y])) (g : (W.alloc o).grownBy w4 v.ownBlock) : NumsOwn w zs' v' w4 := by
  subst e
  refine ⟨by simpa using q, (h.2.alloc h.2.size o).grown g (Nat.le_trans h.2.size (by simp)) (fun k e => (h.1.lt k e).1)⟩
theorem NumsOwn.told {w W : World} {zs : List Int} {v : Value} (h : NumsOwn w zs v W) : ToldR w zs (.returned v) W := by
  obtain ⟨ao, cap, rfl, h1, h2, h3⟩ := reads_own h.1
  exact ⟨ao, cap, rfl, h1, h2, h3, h.2⟩

set_option maxRecDepth 100000 in
set_option maxHeartbeats 8000000 in
theorem refLevel (w : World) (ao : Option Addr) (n cap : Nat) (l : List It) (lv : Int) (h : ItemsAt w ao n l) (hn : n ≤ 1000) :
    Calls Try.prog 29 #[.slice ao n cap, .int .i64 lv] w (ToldR w (lvlOf l lv)) := by
  obtain ⟨i0, hi, hz0, hz1, hz2⟩ := info_parts infoI32
  have HI := Lib.hid h
  have HL := Lib.hid h.1
  clear h
  go_enter Try.func29, Try.ntmps29
  go_wp2
  go_loopw [5, 6] (fun v i wr => ∃ k : Nat, k ≤ n ∧ i = .int .i64 k ∧ NumsOwn w (lvlOf (l.take k) lv) v wr) (fun _ i _ => n - (intOf i).toNat)
  case atStart => exact ⟨0, Nat.zero_le _, rfl, NumsOwn.none w⟩
  case round =>
    obtain ⟨k, hk, rfl, hN⟩ := hrel
    obtain ⟨a1, cp1, rfl⟩ := ownShape hN.1
    have HN := Lib.hid hN
    clear hN
    have k0 : (0 : Int) ≤ (k : Int) := by omega
    by_cases hlt : k < n
    · have hkl : k < l.length := by rw [HL.out]; exact hlt
      obtain ⟨b, off, rfl, hbl, hc⟩ := HI.out.2 (by omega)
      have c0 := (HN.out.2.cell (p := ⟨b, _, none⟩) hbl).trans (hc _ _ (flatI_at l k hkl).1)
      have c1 : wr.cell? ⟨b, off + k * 2 + 1, none⟩ = _ := (HN.out.2.cell (p := ⟨b, _, none⟩) hbl).trans (hc _ _ (flatI_at l k hkl).2)
      have HLk := Lib.hid (show (lvlOf (l.take k) lv).length ≤ 1000 from Nat.le_trans lvl_le (by rw [List.length_take]; omega))
      by_cases hin : 1 ≤ lv ∧ lv ≤ ((l.getD k ⟨0, 0⟩).h : Int)
      · have HE := Lib.hid (lvl_take_in hkl hin)
        obtain ⟨hin1, hin2⟩ := hin
        have HNb := Lib.hid HN.out.2
        have hbl2 := Nat.lt_of_lt_of_le hbl HN.out.2.size
        clear hc hkl hbl
        generalize (l.getD k ⟨0, 0⟩).v = y at *
        generalize ((l.getD k ⟨0, 0⟩).h : Int) = hh at *
        go_wp2_with (at_builtin; go_loud (refine wpList_append_own _ rfl _ _ 39 rfl w.heap.size 21 i0 _ 1 4 Try.underlying39 hi hz0 hz1 hz2 rfl (by decide) _ _ _ rfl (HN.out.1.alloc _) ⟨wr.heap.size, 0, none⟩ 1 1 [.int .i32 y] rfl rfl (cell_one_new _ _ _) (by simp [Value.oneCell']) (by have := HLk.out; simp only [maxLen]; omega) (by have := HLk.out; omega) (Nat.le_trans HNb.out.size (by simp)) ?_; intro v' w4 q4 g4 _; have H4 := Lib.hid (HN.out.more HE.out q4 g4); obtain ⟨a4, c4, rfl⟩ := ownShape q4; clear q4 g4))
        go_roundw
        case rel => exact ⟨k + 1, by omega, by go_num, H4.out⟩
        case measure => simp [intOf]; omega
      · have HE := Lib.hid (lvl_take_out hkl hin)
        have H4 := Lib.hid (show NumsOwn w (lvlOf (l.take (k + 1)) lv) (.slice a1 (lvlOf (l.take k) lv).length cp1) wr by rw [HE.out]; exact HN.out)
        clear hc hkl hbl
        generalize (lvlOf (l.take k) lv).length = nl at *
        generalize ((l.getD k ⟨0, 0⟩).h : Int) = hh at *
        by_cases h1 : 1 ≤ lv
        · have h2 : ¬ lv ≤ hh := fun e => hin ⟨h1, e⟩
          clear hin
          go_wp2
          go_roundw
          case rel => exact ⟨k + 1, by omega, by go_num, H4.out⟩
          case measure => simp [intOf]; omega
        · clear hin
          go_wp2
          go_roundw
          case rel => exact ⟨k + 1, by omega, by go_num, H4.out⟩
          case measure => simp [intOf]; omega
    · obtain rfl : n = k := by omega
      rw [show l.take n = l from List.take_of_length_le (by rw [HL.out]; exact Nat.le_refl _)] at HN ⊢
      have HQ := Lib.hid HN.out.told
      clear HN
      go_wp2
      go_ret
      exact HQ.out


end Go.Proofs.Ytmkpmnmllgdppaa
