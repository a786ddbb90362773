/-
  The walk of SpecHeap: for all numbers and bytes it answers true and leaves all old memory as it was.
-/
import Derived.Test.YtejnadokjnfagaaKnown8
namespace Go.Proofs.Ytejnadokjnfagaa
open Go.RowKit Go.Lib

/-- Numbers that do not fall. -/
def Up (zs : List Int) : Prop := zs.Pairwise (· ≤ ·)

theorem fgt_take (x : Int) : ∀ (l : List Int), ∀ y ∈ l.take (fgt x l), y ≤ x
  | [], y, hy => by simp at hy
  | z :: l, y, hy => by
    unfold fgt at hy
    split at hy
    · simp at hy
    · rcases List.mem_cons.1 (by simpa using hy) with h | h
      · omega
      · exact fgt_take x l y h
theorem fgt_drop (x : Int) : ∀ (l : List Int), Up l → ∀ y ∈ l.drop (fgt x l), x ≤ y
  | [], _, y, hy => by simp at hy
  | z :: l, h, y, hy => by
    obtain ⟨h1, h2⟩ := List.pairwise_cons.1 h
    unfold fgt at hy
    split at hy
    · rename_i c
      rcases List.mem_cons.1 (by simpa using hy) with e | e
      · omega
      · have := h1 y e; omega
    · exact fgt_drop x l h2 y (by simpa using hy)
theorem up_ins {zs : List Int} (h : Up zs) (x : Int) : Up (zs.take (fgt x zs) ++ x :: zs.drop (fgt x zs)) := by
  have h1 := fgt_take x zs
  have h2 := fgt_drop x zs h
  unfold Up at *
  refine List.pairwise_append.2 ⟨List.Pairwise.sublist (List.take_sublist _ _) h, List.pairwise_cons.2 ⟨h2, List.Pairwise.sublist (List.drop_sublist _ _) h⟩, fun a ha b hb => ?_⟩
  rcases List.mem_cons.1 hb with e | e
  · rw [e]; exact h1 a ha
  · exact Int.le_trans (h1 a ha) (h2 b e)
theorem up_hp {zs : List Int} (h : Up zs) (m k x : Int) : Up (objL 3 m zs k x) := by
  simp only [objL, if_neg (show ¬ (3 : Int) = 1 by omega), if_neg (show ¬ (3 : Int) = 2 by omega), if_true, hpL]
  split
  · split
    · exact up_ins h x
    · exact h
  · split
    · exact List.Pairwise.sublist (List.tail_sublist _) h
    · exact h
theorem up_at {zs : List Int} (h : Up zs) {i : Nat} (hi : i + 1 < zs.length) : zs.getD i 0 ≤ zs.getD (i + 1) 0 := by
  have := List.pairwise_iff_getElem.1 h i (i + 1) (by omega) hi (by omega)
  simpa [List.getD, show i < zs.length by omega, hi] using this

theorem objC_heap (m : Int) (zs : List Int) (k : Int) : (objC 3 m zs k = 2 ∧ k = 2 ∧ ∃ y ys, zs = y :: ys) ∨ ¬ objC 3 m zs k = 2 := by
  by_cases h : objC 3 m zs k = 2
  · left
    refine ⟨h, ?_⟩
    simp only [objC, if_neg (show ¬ (3 : Int) = 1 by omega), if_neg (show ¬ (3 : Int) = 2 by omega), if_true, hpC] at h
    split at h
    · split at h <;> omega
    · split at h
      · rename_i c
        cases zs with
        | nil => simp at h
        | cons y ys => exact ⟨c, y, ys, rfl⟩
      · omega
  · exact .inr h

/-- What holds at each round's head. -/
def HeapRel (w : World) (m : Int) (n : Nat) (s i : Value) (wr : World) : Prop :=
  ∃ (k : Nat) (zs : List Int) (ao : Option Addr) (cap : Nat), k ≤ n ∧ i = .int .i64 k ∧ s = .slice ao zs.length cap ∧ Reads .i32 wr ao zs.length zs ∧ Up zs ∧ (zs.length : Int) ≤ m ∧ zs.length ≤ 1000 ∧ Below w.heap.size w wr

set_option maxRecDepth 100000 in
set_option maxHeartbeats 16000000 in
theorem heapWalk {w : World} (most : Int) (ac : Option Addr) (lc cc : Nat) (xs : List Int) (m0 : 0 ≤ most) (m1 : most ≤ 255) (hx : ArgBytes w ac lc cc xs) (hlc : lc ≤ 140737488351232) :
    Calls Try.prog 6 #[.int .u8 most, .slice ac lc cc] w fun e w' => e = .returned (.bool true) ∧ Below w.heap.size w w' := by
  have HX := Lib.hid hx
  have HM := Lib.hid (And.intro m0 m1)
  obtain ⟨m, hm⟩ : ∃ m : Int, most % 20 = m := ⟨_, rfl⟩
  have hm20 : 0 ≤ m ∧ m < 20 := by omega
  have e1 : most.tmod 20 = m := by rw [Int.tmod_eq_emod_of_nonneg m0]; exact hm
  have e2 : IntKind.u8.wrap m = m := by rw [IntKind.wrap_u8]; omega
  have e3 : IntKind.i64.wrap m = m := by rw [IntKind.wrap_i64]; omega
  have HW := Lib.hid (And.intro hm (And.intro e1 (And.intro e2 e3)))
  have HM20 := Lib.hid hm20
  have HMO := Lib.hid (mostOf_self m hm20.1 (by omega))
  clear hx hm e1 e2 e3 m0 m1 hm20
  go_enter Try.func6, Try.ntmps6
  go_wp2_with fail
  refine (opsAny w ac lc cc xs 2 HX.out.1 HX.out.2.2.2 (by omega) (by omega) (by omega)).mono ?_
  rintro e w1 ⟨oo, oc, rfl, o1, _, b1⟩
  have HO := Lib.hid o1
  have HB1 := Lib.hid b1
  have hol := opsL_len 2 xs
  have hos : OpsAt w1 oo (opsL 2 xs).length (opsL 2 xs) := o1
  clear o1 b1
  generalize opsL 2 xs = os at *
  generalize hn : os.length = n at *
  have HN := Lib.hid hn
  clear hn hos
  have HS := Lib.hid (show HeapRel w1 m n (.slice none 0 0) (.int .i64 0) w1 from ⟨0, [], none, 0, Nat.zero_le _, rfl, rfl, ⟨rfl, fun h => by simp at h⟩, List.Pairwise.nil, by have := HM20.out; simp; omega, by simp, Below.refl _ _⟩)
  go_wp2
  go_loopw [6, 7] (fun s i wr => HeapRel w1 m n s i wr) (fun _ i _ => n - (intOf i).toNat)
  case atStart => exact HS.out
  case round =>
    obtain ⟨k, zs, ao, cap, hk, rfl, rfl, hr, hu, hlm, hl, hb⟩ := hrel
    have HR := Lib.hid hr
    have HU := Lib.hid hu
    have HL := Lib.hid (And.intro hlm hl)
    have HB := Lib.hid hb
    clear HS hr hu hlm hl hb
    by_cases hlt : k < n
    · obtain ⟨b, off, rfl, bl, hc⟩ := HO.out.2 (by omega)
      have y0 := (HB.out.cell (p := ⟨b, off + k * 2, none⟩) bl).trans (hc k hlt).1
      have y1 := (HB.out.cell (p := ⟨b, off + k * 2 + 1, none⟩) bl).trans (hc k hlt).2
      have i0 : (k : Int) < n := by omega
      clear hc
      generalize (os.getD k (0, 0)).1 = o1 at *
      generalize (os.getD k (0, 0)).2 = o2 at *
      obtain ⟨e0, e1, e2, e3⟩ := HW.out
      have C := applyAny wr 3 m ao zs.length cap zs o1 o2 HR.out HL.out.2
      rw [HMO.out] at C
      have HC := Lib.hid C
      clear C
      go_wp2_with fail
      refine HC.out.mono ?_
      rintro e w3 ⟨v', rfl, t3, _, b3⟩
      obtain ⟨a3, c3, rfl, r3, _⟩ := tailReads t3
      have HR3 := Lib.hid r3
      have HB3 := Lib.hid (HB.out.trans (b3.mono HB.out.size))
      have HRo := Lib.hid (HR.out.keep b3)
      have HU3 := Lib.hid (up_hp HU.out m o1 o2)
      have HL3 := Lib.hid (show ((objL 3 m zs o1 o2).length : Int) ≤ m ∧ (objL 3 m zs o1 o2).length ≤ 1000 from by
        have := HL.out
        have := HM20.out
        rcases objL_length 3 m zs o1 o2 with h | h <;> omega)
      have hcode := objC_heap m zs o1
      have hval : ∀ y ys, zs = y :: ys → o1 = 2 → objV 3 zs o1 = y := by rintro y ys rfl rfl; simp [objV, hpV]
      clear t3 r3 b3 HC e0 e1 e2 e3 y0 y1 HR
      generalize objL 3 m zs o1 o2 = zl at *
      generalize objC 3 m zs o1 = rc at *
      generalize objV 3 zs o1 = rv at *
      go_upto_region 7 with (fail)
      have q := RBox.new w3 rc rv
      have hb4 : Below w3.heap.size w3 (w3.alloc (.cells #[.int .u8 rc, .int .i32 rv] 32)) := (Below.refl _ _).alloc (Nat.le_refl _) _
      have HR4 := Lib.hid (HR3.out.keep hb4)
      have HRo := Lib.hid (HRo.out.keep hb4)
      have HB4 := Lib.hid (HB3.out.trans (hb4.mono HB3.out.size))
      clear HR3 HB3 hb4 HB
      generalize w3.alloc (.cells #[.int .u8 rc, .int .i32 rv] 32) = w4 at *
      generalize w3.heap.size = g4 at *
      have x0 := q.c0
      have x1 := q.c1
      clear q
      rcases hcode with ⟨hrc, hk2, y, ys, hz⟩ | hrc
      · have hy := hval y ys hz hk2
        rw [hy] at x1
        rw [hrc] at x0
        subst hz
        clear hval hy hrc
        obtain ⟨zb, zo, rfl, zl0, zc⟩ := HRo.out.2 (by simp)
        have cz := zc 0 (by simp)
        rw [List.getD_cons_zero, Nat.add_zero] at cz
        have hzl : ((y :: ys).length : Int) = (ys.length : Int) + 1 := by simp
        have hz0 : (((y :: ys).length : Int) == 0) = false := by rw [hzl]; simp; omega
        have hz1 : (0 : Int) < ((y :: ys).length : Int) := by rw [hzl]; omega
        clear zc
        generalize (y :: ys).length = ln at *
        go_quiet (fail)
        have HB5 := Lib.hid (below_drewN HB4.out nq)
        have HR5 := Lib.hid (HR4.out.keep (below_drewN (Below.refl _ _) nq))
        clear x0 x1 HB4 HR4 HRo cz hzl hz0 hz1
        generalize w4.drewN nq = w5 at *
        have HI := Lib.hid (show Below w5.heap.size w5 w5 from Below.refl _ _)
        go_wp2_with fail
        go_loopw [10] (fun i wr => ∃ j : Nat, 1 ≤ j ∧ (j = 1 ∨ j ≤ zl.length) ∧ i = .int .i64 j ∧ Below w5.heap.size w5 wr) (fun i _ => zl.length + 1 - (intOf i).toNat)
        case atStart => exact ⟨1, Nat.le_refl _, .inl rfl, rfl, HI.out⟩
        case round =>
          obtain ⟨j, j1, hj, rfl, hb⟩ := hrel
          have HBr := Lib.hid hb
          clear HI hb
          by_cases hjl : j < zl.length
          · obtain ⟨ib, io, rfl, il, ic⟩ := (HR5.out.keep HBr.out).2 (by omega)
            obtain ⟨i, hi⟩ : ∃ i, j = i + 1 := ⟨j - 1, by omega⟩
            have HIJ := Lib.hid hi
            have ca := ic i (by omega)
            have cb := ic j hjl
            have hle := up_at HU3.out (i := i) (by omega)
            rw [← hi] at hle
            have ei : IntKind.i64.wrap ((j : Int) - 1) = (i : Int) := by have := HL3.out.2; rw [IntKind.wrap_i64]; omega
            have ei2 : (j : Int) - 1 = (i : Int) := by omega
            have ew : IntKind.i64.wrap ((j : Int) + 1) = (j : Int) + 1 := by have := HL3.out.2; rw [IntKind.wrap_i64]; omega
            have ei3 : IntKind.i64.wrap (i : Int) = (i : Int) := by have := HL3.out.2; rw [IntKind.wrap_i64]; omega
            have jl : (j : Int) < (zl.length : Int) := by omega
            have il2 : (i : Int) < (zl.length : Int) := by omega
            clear ic hi hj
            generalize zl.getD i 0 = ya at *
            generalize zl.getD j 0 = yb at *
            have HJL := Lib.hid hjl
            clear hjl
            go_wp2
            go_quiet (fail)
            clear ei ei2 ei3 ca cb
            go_wp2
            go_roundw
            case rel => exact ⟨j + 1, by omega, .inr HJL.out, by simp, below_drewN HBr.out _⟩
            case measure => have h2 := HJL.out; simp [intOf]; omega
          · have jl : ¬ (j : Int) < (zl.length : Int) := by omega
            have HE := Lib.hid (show HeapRel w1 m n (.slice a3 zl.length c3) (.int .i64 ((k + 1 : Nat) : Int)) wr from ⟨k + 1, zl, a3, c3, by omega, rfl, rfl, HR5.out.keep HBr.out, HU3.out, HL3.out.1, HL3.out.2, HB5.out.trans (HBr.out.mono HB5.out.size)⟩)
            clear HBr HB5 HR5
            go_wp2
            go_roundw
            case rel => exact HE.out
            case measure => simp [intOf]; omega
      · have dc : (rc == 2) = false := by simpa using hrc
        clear hval hrc
        go_quiet (fail)
        have HB5 := Lib.hid (below_drewN HB4.out nq)
        have HR5 := Lib.hid (HR4.out.keep (below_drewN (Below.refl _ _) nq))
        clear x0 x1 HB4 HR4 HRo dc
        generalize w4.drewN nq = w5 at *
        have HI := Lib.hid (show Below w5.heap.size w5 w5 from Below.refl _ _)
        go_wp2_with fail
        go_loopw [10] (fun i wr => ∃ j : Nat, 1 ≤ j ∧ (j = 1 ∨ j ≤ zl.length) ∧ i = .int .i64 j ∧ Below w5.heap.size w5 wr) (fun i _ => zl.length + 1 - (intOf i).toNat)
        case atStart => exact ⟨1, Nat.le_refl _, .inl rfl, rfl, HI.out⟩
        case round =>
          obtain ⟨j, j1, hj, rfl, hb⟩ := hrel
          have HBr := Lib.hid hb
          clear HI hb
          by_cases hjl : j < zl.length
          · obtain ⟨ib, io, rfl, il, ic⟩ := (HR5.out.keep HBr.out).2 (by omega)
            obtain ⟨i, hi⟩ : ∃ i, j = i + 1 := ⟨j - 1, by omega⟩
            have HIJ := Lib.hid hi
            have ca := ic i (by omega)
            have cb := ic j hjl
            have hle := up_at HU3.out (i := i) (by omega)
            rw [← hi] at hle
            have ei : IntKind.i64.wrap ((j : Int) - 1) = (i : Int) := by have := HL3.out.2; rw [IntKind.wrap_i64]; omega
            have ei2 : (j : Int) - 1 = (i : Int) := by omega
            have ew : IntKind.i64.wrap ((j : Int) + 1) = (j : Int) + 1 := by have := HL3.out.2; rw [IntKind.wrap_i64]; omega
            have ei3 : IntKind.i64.wrap (i : Int) = (i : Int) := by have := HL3.out.2; rw [IntKind.wrap_i64]; omega
            have jl : (j : Int) < (zl.length : Int) := by omega
            have il2 : (i : Int) < (zl.length : Int) := by omega
            clear ic hi hj
            generalize zl.getD i 0 = ya at *
            generalize zl.getD j 0 = yb at *
            have HJL := Lib.hid hjl
            clear hjl
            go_wp2
            go_quiet (fail)
            clear ei ei2 ei3 ca cb
            go_wp2
            go_roundw
            case rel => exact ⟨j + 1, by omega, .inr HJL.out, by simp, below_drewN HBr.out _⟩
            case measure => have h2 := HJL.out; simp [intOf]; omega
          · have jl : ¬ (j : Int) < (zl.length : Int) := by omega
            have HE := Lib.hid (show HeapRel w1 m n (.slice a3 zl.length c3) (.int .i64 ((k + 1 : Nat) : Int)) wr from ⟨k + 1, zl, a3, c3, by omega, rfl, rfl, HR5.out.keep HBr.out, HU3.out, HL3.out.1, HL3.out.2, HB5.out.trans (HBr.out.mono HB5.out.size)⟩)
            clear HBr HB5 HR5
            go_wp2
            go_roundw
            case rel => exact HE.out
            case measure => simp [intOf]; omega
    · obtain rfl : k = n := by omega
      have HLm := Lib.hid HL.out.1
      clear HL HU HR
      generalize zs.length = zn at *
      have hlm := HLm.out
      obtain ⟨e0, e1, e2, e3⟩ := HW.out
      go_wp2_with fail
      refine (known _).mono ?_
      rintro e w9 ⟨rfl, b9⟩
      have HB9 := Lib.hid (HB1.out.trans ((HB.out.trans (b9.mono HB.out.size)).mono HB1.out.size))
      clear b9 HB
      go_wp2
      go_ret
      exact ⟨rfl, HB9.out⟩

end Go.Proofs.Ytejnadokjnfagaa
