/-
  What reaperref03.Decode tells of bytes: the same entries as script.Decode. Conditions: at most a million bytes.
-/
import Derived.Test.YtblkkafilabbkaaEncode
namespace Go.Proofs.Ytblkkafilabbkaa
open Go.RowKit

/-- The first j entries of bytes in a row of one's own. -/
def Decd (w : World) (xs : List Int) (j : Nat) (v : Value) (wr : World) : Prop := wr.ownsRow w.heap.size 46 5 v j (flat ((List.range j).map (decAt xs))) ∧ Below w.heap.size w wr

theorem Decd.next {w wr w3 w4 : World} {xs : List Int} {j : Nat} {v v' : Value} {o : Obj} {e : Ent} (h : Decd w xs j v wr) (he : decAt xs j = e) (hown : w4.ownsRow w.heap.size 46 5 v' (j + 1) (flat ((List.range j).map (decAt xs)) ++ e.cells))
    (hb : Below wr.heap.size wr w3) (hg : (w3.alloc o).grownBy w4 v.ownBlock) : Decd w xs (j + 1) v' w4 := by
  refine ⟨by rw [List.range_succ, List.map_append, List.map_cons, List.map_nil, flat_snoc, he]; exact hown, ?_⟩
  have h3 : Below w.heap.size w w3 := h.2.trans (hb.mono h.2.size)
  exact (h3.alloc h3.size o).grown hg (Nat.le_trans h3.size (by simp)) (fun k e => (h.1.lt k e).1)

theorem set_block {w : World} {g : Nat} {cs : Array Value} {t : TypeId} (h : w.heap[g]? = some (.cells cs t (0, 0))) (i : Nat) (u : Value) : (w.setCell ⟨g, i, none⟩ u).heap[g]? = some (.cells (cs.setIfInBounds i u) t (0, 0)) := by
  simp [World.setCell, Array.getElem?_modify, h]

theorem EBox.set5 {w : World} {B : Nat} {e0 : Ent} (h : EBox w B e0) (e : Ent) :
    EBox (((((w.setCell ⟨B, 0, none⟩ (.int .u8 e.k)).setCell ⟨B, 1, none⟩ (.int .i64 e.t)).setCell ⟨B, 2, none⟩ (.int .u8 e.ok)).setCell ⟨B, 3, none⟩ (.int .i32 e.ov)).setCell ⟨B, 4, none⟩ (.int .u8 e.b)) B e := by
  have := set_block (set_block (set_block (set_block (set_block h 0 (.int .u8 e.k)) 1 (.int .i64 e.t)) 2 (.int .u8 e.ok)) 3 (.int .i32 e.ov)) 4 (.int .u8 e.b)
  unfold EBox
  simpa using this

set_option maxRecDepth 100000 in
set_option maxHeartbeats 4000000 in
theorem refDecode (w : World) (ao : Option Addr) (len cap : Nat) (xs : List Int) (hr : Reads .u8 w ao len xs) (hby : ∀ x ∈ xs, 0 ≤ x ∧ x ≤ 255) (hlen : len ≤ 1000000) :
    Calls Try.prog 14 #[.slice ao len cap] w (EntsNew w (decL xs)) := by
  obtain ⟨i0, hi, hz0, hz1, hz2⟩ := info_parts infoE
  have HR := Lib.hid hr
  have HL := Lib.hid hr.1
  have HY := Lib.hid hby
  clear hr hby
  go_enter Try.func14, Try.ntmps14
  go_wp2
  have HS := Lib.hid (show Decd w xs 0 (.slice none 0 0) w from ⟨by simpa [flat] using World.ownsRow_nil w w.heap.size 46 5, Below.refl _ w⟩)
  go_loopw [3, 4] (fun v i wr => ∃ j : Nat, j ≤ len / 4 ∧ i = .int .i64 ((4 * j : Nat) : Int) ∧ Decd w xs j v wr) (fun _ i _ => len + 4 - (intOf i).toNat)
  case atStart => exact ⟨0, Nat.zero_le _, rfl, HS.out⟩
  case round =>
    obtain ⟨j, hj, rfl, hpj⟩ := hrel
    have HE := Lib.hid hpj
    clear hpj HS
    by_cases hlt : 4 * j + 3 < len
    · obtain ⟨b, off, rfl, hbl, hcs⟩ := (HR.out.keep HE.out.2).2 (by omega)
      have d0 := hcs (4 * j) (by omega)
      have d1 := hcs (4 * j + 1) (by omega)
      have d2 := hcs (4 * j + 2) (by omega)
      have d3 := hcs (4 * j + 3) (by omega)
      have HN := Lib.hid (show j + 1 ≤ len / 4 by omega)
      have HI := Lib.hid (show 4 * j + 4 = 4 * (j + 1) by omega)
      have HDe := Lib.hid (show decAt xs j = dec (xs.getD (4 * j) 0) (xs.getD (4 * j + 1) 0) (xs.getD (4 * j + 2) 0) (xs.getD (4 * j + 3) 0) from rfl)
      obtain ⟨p1, p1'⟩ := byte_at HY.out (4 * j + 1)
      obtain ⟨p3, p3'⟩ := byte_at HY.out (4 * j + 3)
      have jl : j ≤ 1000000 := by omega
      clear hcs hj
      generalize xs.getD (4 * j) 0 = y0 at *
      generalize xs.getD (4 * j + 1) 0 = y1 at *
      generalize xs.getD (4 * j + 2) 0 = y2 at *
      generalize xs.getD (4 * j + 3) 0 = y3 at *
      generalize 4 * j = i at *
      go_upto_region 6 with (fail)
      have HZ := Lib.hid (EBox.new wr ⟨0, 0, 0, 0, 0⟩)
      have HB := Lib.hid ((Below.refl wr.heap.size wr).alloc (Nat.le_refl _) (.cells #[.int .u8 0, .int .i64 0, .int .u8 0, .int .i32 0, .int .u8 0] 46))
      generalize wr.alloc (.cells #[.int .u8 0, .int .i64 0, .int .u8 0, .int .i32 0, .int .u8 0] 46) = W1 at *
      have b0 := (HB.out.cell (p := ⟨b, off + i, none⟩) hbl).trans d0
      have b1 := (HB.out.cell (p := ⟨b, off + (i + 1), none⟩) hbl).trans d1
      have b2 := (HB.out.cell (p := ⟨b, off + (i + 2), none⟩) hbl).trans d2
      have b3 := (HB.out.cell (p := ⟨b, off + (i + 3), none⟩) hbl).trans d3
      clear d0 d1 d2 d3
      by_cases e1 : y0 = 1
      · subst e1
        have z0 := HZ.out.c0
        have z1 := HZ.out.c1
        have z2 := HZ.out.c2
        have z3 := HZ.out.c3
        have z4 := HZ.out.c4
        have zf := HZ.out.f
        have HDf := Lib.hid (show decAt xs j = ⟨1, y1, y2, y3, 0⟩ by rw [HDe.out, dec_call _ _ _ _ rfl])
        go_upto_region 8 with (fail)
        have e1 : IntKind.i64.wrap ((i : Int) + 1) = (i : Int) + 1 := IntWalk.i64_in _ (by omega)
        have e2 : IntKind.i64.wrap ((i : Int) + 2) = (i : Int) + 2 := IntWalk.i64_in _ (by omega)
        have e3 : IntKind.i64.wrap ((i : Int) + 3) = (i : Int) + 3 := IntWalk.i64_in _ (by omega)
        have f1 : 0 ≤ (i : Int) + 1 := by omega
        have f2 : 0 ≤ (i : Int) + 2 := by omega
        have f3 : 0 ≤ (i : Int) + 3 := by omega
        have t1 : ((i : Int) + 1).toNat = i + 1 := by omega
        have t2 : ((i : Int) + 2).toNat = i + 2 := by omega
        have t3 : ((i : Int) + 3).toNat = i + 3 := by omega
        have l1 : (i : Int) + 1 < len := by omega
        have l2 : (i : Int) + 2 < len := by omega
        have l3 : (i : Int) + 3 < len := by omega
        go_still_tail 19, (by kernel_rfl)
        clear e1 e2 e3 t1 t2 t3 f1 f2 f3 l1 l2 l3
        have HZ2 := Lib.hid (show EBox W1.drew wr.heap.size ⟨0, 0, 0, 0, 0⟩ from HZ.out)
        have HB2 := Lib.hid (show Below wr.heap.size wr W1.drew from below_drewN HB.out 1)
        rw [show IntKind.i64.wrap y1 = y1 from IntWalk.i64_in _ (by omega), show IntKind.i32.wrap y3 = y3 by rw [IntKind.wrap_i32]; omega]
        change wpList _ _ _ _ _ W1.drew
        clear z0 z1 z2 z3 z4 zf b0 b1 b2 b3 HB HZ
        generalize W1.drew = W2 at *
        have z0 := HZ2.out.c0
        have z1 := HZ2.out.c1
        have z2 := HZ2.out.c2
        have z3 := HZ2.out.c3
        have z4 := HZ2.out.c4
        have zf := HZ2.out.f
        go_upto_region 13 with (fail)
        have HZ3 := Lib.hid (HZ2.out.set5 ⟨1, y1, y2, y3, 0⟩)
        have HB3 := Lib.hid (set5 HB2.out (Nat.le_refl wr.heap.size) (.int .u8 (1)) (.int .i64 (y1)) (.int .u8 (y2)) (.int .i32 (y3)) (.int .u8 (0)))
        generalize ((((W2.setCell ⟨wr.heap.size, 0, none⟩ (.int .u8 1)).setCell ⟨wr.heap.size, 1, none⟩ (.int .i64 y1)).setCell ⟨wr.heap.size, 2, none⟩ (.int .u8 y2)).setCell ⟨wr.heap.size, 3, none⟩ (.int .i32 y3)).setCell ⟨wr.heap.size, 4, none⟩ (.int .u8 0) = W3 at *
        clear z0 z1 z2 z3 z4 zf
        have r0 := HZ3.out.c0
        have r1 := HZ3.out.c1
        have r2 := HZ3.out.c2
        have r3 := HZ3.out.c3
        have r4 := HZ3.out.c4
        have rf := HZ3.out.f
        go_wp2_with (at_builtin
                     refine wpList_append_own _ rfl _ _ 23 rfl w.heap.size 46 i0 _ 5 32 Try.underlying23 hi hz0 hz1 hz2 rfl (by decide) _ _ _ rfl ((own_below HE.out.1 HB3.out).alloc _) ⟨W3.heap.size, 0, none⟩ 1 1 (⟨1, y1, y2, y3, 0⟩ : Ent).cells rfl rfl (new_cells W3 ⟨1, y1, y2, y3, 0⟩) (fun u hu => flat_one [⟨1, y1, y2, y3, 0⟩] u (by simpa [flat] using hu)) (by simp only [maxLen]; omega) (by omega) (Nat.le_trans HE.out.2.size (Nat.le_trans HB3.out.size (by simp))) ?_
                     intro v' w4 o4 g4 _
                     have O4 := Lib.hid o4
                     have G4 := Lib.hid g4
                     clear o4 g4)
        go_roundw
        case rel => exact ⟨j + 1, HN.out, by rw [← HI.out]; go_num, HE.out.next HDf.out O4.out HB3.out G4.out⟩
        case measure => simp [intOf]; omega
      · by_cases e2 : y0 = 2
        · subst e2
          have z0 := HZ.out.c0
          have z1 := HZ.out.c1
          have z2 := HZ.out.c2
          have z3 := HZ.out.c3
          have z4 := HZ.out.c4
          have zf := HZ.out.f
          have HDf := Lib.hid (show decAt xs j = ⟨2, y1, 0, 0, 0⟩ by rw [HDe.out, dec_pick _ _ _ _ rfl])
          go_upto_region 13 with (fail)
          have HZ3 := Lib.hid (HZ.out.set5 ⟨2, y1, 0, 0, 0⟩)
          have HB3 := Lib.hid (set5 HB.out (Nat.le_refl wr.heap.size) (.int .u8 (2)) (.int .i64 (y1)) (.int .u8 (0)) (.int .i32 (0)) (.int .u8 (0)))
          generalize ((((W1.setCell ⟨wr.heap.size, 0, none⟩ (.int .u8 2)).setCell ⟨wr.heap.size, 1, none⟩ (.int .i64 y1)).setCell ⟨wr.heap.size, 2, none⟩ (.int .u8 0)).setCell ⟨wr.heap.size, 3, none⟩ (.int .i32 0)).setCell ⟨wr.heap.size, 4, none⟩ (.int .u8 0) = W3 at *
          clear z0 z1 z2 z3 z4 zf
          have r0 := HZ3.out.c0
          have r1 := HZ3.out.c1
          have r2 := HZ3.out.c2
          have r3 := HZ3.out.c3
          have r4 := HZ3.out.c4
          have rf := HZ3.out.f
          go_wp2_with (at_builtin
                       refine wpList_append_own _ rfl _ _ 23 rfl w.heap.size 46 i0 _ 5 32 Try.underlying23 hi hz0 hz1 hz2 rfl (by decide) _ _ _ rfl ((own_below HE.out.1 HB3.out).alloc _) ⟨W3.heap.size, 0, none⟩ 1 1 (⟨2, y1, 0, 0, 0⟩ : Ent).cells rfl rfl (new_cells W3 ⟨2, y1, 0, 0, 0⟩) (fun u hu => flat_one [⟨2, y1, 0, 0, 0⟩] u (by simpa [flat] using hu)) (by simp only [maxLen]; omega) (by omega) (Nat.le_trans HE.out.2.size (Nat.le_trans HB3.out.size (by simp))) ?_
                       intro v' w4 o4 g4 _
                       have O4 := Lib.hid o4
                       have G4 := Lib.hid g4
                       clear o4 g4)
          go_roundw
          case rel => exact ⟨j + 1, HN.out, by rw [← HI.out]; go_num, HE.out.next HDf.out O4.out HB3.out G4.out⟩
          case measure => simp [intOf]; omega
        · by_cases e3 : y0 = 3
          · subst e3
            have z0 := HZ.out.c0
            have z1 := HZ.out.c1
            have z2 := HZ.out.c2
            have z3 := HZ.out.c3
            have z4 := HZ.out.c4
            have zf := HZ.out.f
            have HDf := Lib.hid (show decAt xs j = ⟨3, 0, 0, 0, y3⟩ by rw [HDe.out, dec_draw _ _ _ _ rfl])
            go_upto_region 13 with (fail)
            have HZ3 := Lib.hid (HZ.out.set5 ⟨3, 0, 0, 0, y3⟩)
            have HB3 := Lib.hid (set5 HB.out (Nat.le_refl wr.heap.size) (.int .u8 (3)) (.int .i64 (0)) (.int .u8 (0)) (.int .i32 (0)) (.int .u8 (y3)))
            generalize ((((W1.setCell ⟨wr.heap.size, 0, none⟩ (.int .u8 3)).setCell ⟨wr.heap.size, 1, none⟩ (.int .i64 0)).setCell ⟨wr.heap.size, 2, none⟩ (.int .u8 0)).setCell ⟨wr.heap.size, 3, none⟩ (.int .i32 0)).setCell ⟨wr.heap.size, 4, none⟩ (.int .u8 y3) = W3 at *
            clear z0 z1 z2 z3 z4 zf
            have r0 := HZ3.out.c0
            have r1 := HZ3.out.c1
            have r2 := HZ3.out.c2
            have r3 := HZ3.out.c3
            have r4 := HZ3.out.c4
            have rf := HZ3.out.f
            go_wp2_with (at_builtin
                         refine wpList_append_own _ rfl _ _ 23 rfl w.heap.size 46 i0 _ 5 32 Try.underlying23 hi hz0 hz1 hz2 rfl (by decide) _ _ _ rfl ((own_below HE.out.1 HB3.out).alloc _) ⟨W3.heap.size, 0, none⟩ 1 1 (⟨3, 0, 0, 0, y3⟩ : Ent).cells rfl rfl (new_cells W3 ⟨3, 0, 0, 0, y3⟩) (fun u hu => flat_one [⟨3, 0, 0, 0, y3⟩] u (by simpa [flat] using hu)) (by simp only [maxLen]; omega) (by omega) (Nat.le_trans HE.out.2.size (Nat.le_trans HB3.out.size (by simp))) ?_
                         intro v' w4 o4 g4 _
                         have O4 := Lib.hid o4
                         have G4 := Lib.hid g4
                         clear o4 g4)
            go_roundw
            case rel => exact ⟨j + 1, HN.out, by rw [← HI.out]; go_num, HE.out.next HDf.out O4.out HB3.out G4.out⟩
            case measure => simp [intOf]; omega
          · have HDf := Lib.hid (show decAt xs j = ⟨0, 0, 0, 0, 0⟩ by rw [HDe.out, dec_else _ _ _ _ e1 e2 e3])
            have k1 := beq_eq_false_iff_ne.2 e1
            have k2 := beq_eq_false_iff_ne.2 e2
            have k3 := beq_eq_false_iff_ne.2 e3
            clear e1 e2 e3
            have z0 := HZ.out.c0
            have z1 := HZ.out.c1
            have z2 := HZ.out.c2
            have z3 := HZ.out.c3
            have z4 := HZ.out.c4
            have zf := HZ.out.f
            go_wp2_with (at_builtin
                         refine wpList_append_own _ rfl _ _ 23 rfl w.heap.size 46 i0 _ 5 32 Try.underlying23 hi hz0 hz1 hz2 rfl (by decide) _ _ _ rfl ((own_below HE.out.1 HB.out).alloc _) ⟨W1.heap.size, 0, none⟩ 1 1 (⟨0, 0, 0, 0, 0⟩ : Ent).cells rfl rfl (new_cells W1 ⟨0, 0, 0, 0, 0⟩) (fun u hu => flat_one [⟨0, 0, 0, 0, 0⟩] u (by simpa [flat] using hu)) (by simp only [maxLen]; omega) (by omega) (Nat.le_trans HE.out.2.size (Nat.le_trans HB.out.size (by simp))) ?_
                         intro v' w4 o4 g4 _
                         have O4 := Lib.hid o4
                         have G4 := Lib.hid g4
                         clear o4 g4)
            go_roundw
            case rel => exact ⟨j + 1, HN.out, by rw [← HI.out]; go_num, HE.out.next HDf.out O4.out HB.out G4.out⟩
            case measure => simp [intOf]; omega
    · obtain rfl : j = len / 4 := by omega
      have hge : ¬ ((4 * (len / 4) : Nat) : Int) + 3 < len := by omega
      have il : 4 * (len / 4) ≤ 1000000 := by omega
      generalize 4 * (len / 4) = i at *
      go_wp2
      go_ret
      exact EntsNew.of_own (by rw [decL, HL.out]; exact HE.out.1) HE.out.2

end Go.Proofs.Ytblkkafilabbkaa
