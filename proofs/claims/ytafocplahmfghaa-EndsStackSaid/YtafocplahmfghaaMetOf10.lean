/-
  metOf of package ends: which operations are pushes that a pop meets. Conditions: a row that says whom each of at most a million meets.
-/
import Derived.Test.YtafocplahmfghaaAppPl10
import Derived.Test.YtafocplahmfghaaKnow10
namespace Go.Proofs.Ytafocplahmfghaa
open Go.RowKit

/-- Whom the first k of many meet. -/
def metRow (ps : List Int) (n k : Nat) : List Bool := (List.range n).map fun j : Nat => decide ((j : Int) ∈ ps.take k)
section
variable {ps : List Int} {n k : Nat}
theorem metRow_length : (metRow ps n k).length = n := by simp [metRow]
theorem metRow_none : metRow ps n 0 = List.replicate n false := by simp [metRow, List.map_const']
theorem take_next (hk : k < ps.length) : ps.take (k + 1) = ps.take k ++ [ps.getD k 0] := by
  rw [List.take_succ_eq_append_getElem hk]; simp [List.getD, hk]
theorem metRow_old (hk : k < ps.length) (e : ps.getD k 0 = -1) : metRow ps n (k + 1) = metRow ps n k := by
  unfold metRow
  refine List.map_congr_left fun j _ => ?_
  rw [take_next hk, e]
  simp only [List.mem_append, List.mem_singleton, decide_eq_decide]
  exact ⟨fun h => h.elim id (fun h => by omega), .inl⟩
theorem metRow_put (hk : k < ps.length) {m : Nat} (e : ps.getD k 0 = m) : (metRow ps n k).set m true = metRow ps n (k + 1) := by
  refine List.ext_getElem (by simp [metRow_length]) fun i h1 h2 => ?_
  rw [List.getElem_set]
  simp only [metRow, List.getElem_map, List.getElem_range, take_next hk, e, List.mem_append, List.mem_singleton]
  split
  · rename_i h; subst h; simp
  · rename_i h
    simp only [decide_eq_decide]
    exact ⟨.inl, fun h => h.elim id (fun h => by omega)⟩
theorem metRow_at {j : Nat} (h : j < n) (hl : ps.length = n) : (metRow ps n n).getD j false = metB ps j := by
  simp [metRow, metB, List.getD, h, List.take_of_length_le (Nat.le_of_eq hl)]
end

set_option maxRecDepth 100000 in
set_option maxHeartbeats 3200000 in
theorem metOfAny (w : World) (gw n : Nat) (ps : List Int) (hr : Rw w gw .i64 3 ps) (hl : ps.length = n) (hp : ∀ k, k < n → -1 ≤ ps.getD k 0 ∧ ps.getD k 0 < n) (hn : n ≤ 1000000) :
    Calls Try.prog 46 #[.slice (some ⟨gw, 0, none⟩) n n] w fun e w' => ∃ gm, e = .returned (.slice (some ⟨gm, 0, none⟩) n n) ∧ BRw w' gm (metRow ps n n) ∧ w.heap.size ≤ gm ∧ Below w.heap.size w w' := by
  obtain ⟨i0, hi, hz0, hz1, hz2⟩ := info_parts infoBool
  have HR := Lib.hid hr
  have HL := Lib.hid hl
  have HP := Lib.hid hp
  clear hr hl hp
  go_enter Try.func46, Try.ntmps46
  go_wp2_with (at_make; refine wpList_make_full _ rfl _ _ 38 rfl w.heap.size 4 i0 _ 1 Try.underlying38 hi hz0 hz1 .i64 .i64 _ _ n rfl rfl rfl rfl (by rw [hz2]; omega) (by simp only [maxLen]; omega) (Nat.le_refl _) ?_; intro w2 hown2 hgrow2; have HM := Lib.hid (madeBools hown2 hgrow2); clear hown2 hgrow2)
  have HS := Lib.hid (show Below w.heap.size w w2 ∧ BRw w2 w.heap.size (metRow ps n 0) from ⟨HM.out.2, by rw [metRow_none]; exact HM.out.1⟩)
  clear HM hi hz0 hz1 hz2
  generalize hc : w.heap.size = c at *
  go_loopw [11] (fun i wr => ∃ k : Nat, k ≤ n ∧ i = .int .i64 k ∧ Hid (Below c w wr ∧ BRw wr c (metRow ps n k))) (fun i _ => n - (intOf i).toNat)
  case atStart => exact ⟨0, Nat.zero_le _, rfl, HS⟩
  case round =>
    obtain ⟨k, hk, rfl, HK⟩ := hrel
    clear HS
    by_cases hlt : k < n
    · have c1 := (HR.out.below (by rw [hc]; exact HK.out.1)).cell (i := k) (by rw [HL.out]; exact hlt)
      have hb := HP.out k hlt
      have i1 : (k : Int) < (n : Int) := by omega
      by_cases hz : ps.getD k 0 = -1
      · have HE := Lib.hid (metRow_old (n := n) (by rw [HL.out]; exact hlt) hz)
        rw [hz] at c1
        clear hb hz
        go_wp2
        go_roundw
        case rel => exact ⟨k + 1, by omega, by go_num, by rw [HE.out]; exact HK⟩
        case measure => simp [intOf]; omega
      · obtain ⟨m, hm⟩ : ∃ m : Nat, ps.getD k 0 = m := ⟨(ps.getD k 0).toNat, by omega⟩
        have HE := Lib.hid (metRow_put (n := n) (by rw [HL.out]; exact hlt) hm)
        rw [hm] at c1 hb hz
        have i2 : (m : Int) < (n : Int) := hb.2
        have c2 := HK.out.2.cell (i := m) (by rw [metRow_length]; omega)
        have f2 := HK.out.2.free m
        have i3 : ((m : Int) != -1) = true := by simp
        have HX := Lib.hid (HK.out.2.set m true)
        generalize (metRow ps n k).getD m false = z at *
        clear hb hz
        go_wp2
        go_roundw
        case rel => exact ⟨k + 1, by omega, by go_num, Lib.hid ⟨HK.out.1.setCell (p := ⟨c, m, none⟩) (Nat.le_refl c) (.bool true), by rw [← HE.out]; exact HX.out⟩⟩
        case measure => simp [intOf]; omega
    · obtain rfl : k = n := by omega
      clear hlt
      go_wp2
      go_ret
      exact ⟨c, rfl, HK.out.2, by omega, by rw [hc]; exact HK.out.1⟩

end Go.Proofs.Ytafocplahmfghaa
