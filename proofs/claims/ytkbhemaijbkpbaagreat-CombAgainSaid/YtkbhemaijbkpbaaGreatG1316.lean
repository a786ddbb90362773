/-
  slices.Repeat of one int, as the program's own text says it: as many of it as asked. Conditions: at most 2^32. rowOf of package ends: a new row. Conditions: at most a million operations. An operation in a block of its own. Conditions: none.
-/
import Derived.Test.YtkbhemaijbkpbaaGreatG1216
import Derived.Test.YtkbhemaijbkpbaaGreatQDSlots10m
import Derived.Laws.Bits64b
import Derived.Laws.CopyOwn
import Derived.Deep.RegionHeldLaw
import Derived.Deep.CutRange
namespace Go.Proofs.YtkbhemaijbkpbaaGreat.D10
open Go.RowKit

set_option maxRecDepth 100000 in
set_option maxHeartbeats 3200000 in
theorem mul64One (w : World) (y : Nat) (hy : y < 4294967296) :
    Calls Tryz.prog 204 #[.int .u64 1, .int .u64 y] w fun e w' => e = .returned (.tuple #[.int .u64 0, .int .u64 y]) ∧ w = w' := by
  have ha : bits .and .u64 (y : Int) 4294967295 = (y : Int) := by
    have h := bits_and_u64_nat y 4294967295 (by omega) (by omega)
    have e : y &&& 4294967295 = y := by
      have : y &&& 4294967295 = y % 4294967296 := Nat.and_two_pow_sub_one_eq_mod y 32
      rw [this]; omega
    rw [e] at h
    exact h
  have hd : (y : Int) / 4294967296 = 0 := by omega
  have hw : IntKind.u64.wrap (y : Int) = (y : Int) := by rw [IntKind.wrap_u64]; omega
  have h0 : bits .and .u64 0 4294967295 = 0 := by
    have h := bits_and_u64_nat 0 4294967295 (by omega) (by omega)
    simpa using h
  have h1 : bits .and .u64 1 4294967295 = 1 := by
    have h := bits_and_u64_nat 1 4294967295 (by omega) (by omega)
    have e : 1 &&& 4294967295 = 1 := by
      have : 1 &&& 4294967295 = 1 % 4294967296 := Nat.and_two_pow_sub_one_eq_mod 1 32
      rw [this]
    rw [e] at h
    exact h
  go_enter Tryz.func204, Tryz.ntmps204
  go_wp2
  go_ret2
  exact ⟨rfl, rfl⟩

set_option maxRecDepth 100000 in
set_option maxHeartbeats 1600000 in
theorem mulOne (w : World) (y : Nat) (hy : y < 4294967296) :
    Calls Tryz.prog 202 #[.int .u64 1, .int .u64 y] w fun e w' => e = .returned (.tuple #[.int .u64 0, .int .u64 y]) ∧ w = w' := by
  have C := mul64One w y hy
  have hw : IntKind.u64.wrap (y : Int) = (y : Int) := by rw [IntKind.wrap_u64]; omega
  go_enter Tryz.func202, Tryz.ntmps202
  go_wp2_with fail
  refine C.mono ?_
  rintro e w1 ⟨rfl, rfl⟩
  go_wp2
  go_ret2
  exact ⟨rfl, rfl⟩

theorem sizeI : (Tryz.prog.info? 3).map (·.size) = some 1 := by kernel_rfl

/-- The row, of which j places are written. -/
def repL (v : Int) (N j : Nat) : List Int := List.replicate j v ++ List.replicate (N - j) 0
theorem rep_splice (v : Int) (N j m : Nat) (h : j + m ≤ N) : splice ((repL v N j).map (Value.int .i64)) j (List.replicate m (Value.int .i64 v)) = (repL v N (j + m)).map (Value.int .i64) := by
  unfold splice repL
  rw [List.map_append, List.map_append, List.map_replicate, List.map_replicate, List.map_replicate, List.map_replicate, List.take_left' (by simp), List.length_replicate, ← List.drop_drop, List.drop_left' (by simp), List.drop_replicate, ← List.append_assoc, List.replicate_append_replicate, show N - j - m = N - (j + m) by omega]
theorem repL_length (v : Int) {N j : Nat} (h : j ≤ N) : (repL v N j).length = N := by simp [repL]; omega
theorem rep_first (v : Int) (N : Nat) : splice ((List.replicate N (0 : Int)).map (Value.int .i64)) 0 (List.replicate (Nat.min 1 N) (Value.int .i64 v)) = (repL v N (Nat.min 1 N)).map (Value.int .i64) := by
  have := rep_splice v N 0 (Nat.min 1 N) (by rw [Nat.zero_add]; exact Nat.min_le_right 1 N)
  simpa [repL] using this
/-- On the way. -/
def RepR (v : Int) (N g : Nat) (w : World) (j : Nat) (wr : World) : Prop := Rw wr g .i64 3 (repL v N j) ∧ Below w.heap.size w wr
theorem RepR.src {v : Int} {N g : Nat} {w : World} {j : Nat} {wr : World} (h : RepR v N g w j wr) (hj : j ≤ N) (m : Nat) (hm : m ≤ j) (i : Nat) (u : Value) (hu : (List.replicate m (Value.int .i64 v))[i]? = some u) : wr.cell? ((⟨g, 0, none⟩ : Addr).add i) = some u := by
  have hi : i < m := by
    have := (List.getElem?_eq_some_iff.1 hu).1
    simpa using this
  have e : u = .int .i64 v := List.eq_of_mem_replicate (List.mem_of_getElem? hu)
  have c := h.1.cell (i := i) (by rw [repL_length v hj]; omega)
  rw [e]
  have hv : (repL v N j).getD i 0 = v := by
    unfold repL
    simp [List.getD, List.getElem?_append_left (show i < (List.replicate j v).length by simp; omega), show i < j by omega]
  rw [hv] at c
  have ea : (⟨g, 0, none⟩ : Addr).add i = ⟨g, i, none⟩ := by
    unfold Addr.add
    simp
    intro h; exact h.symm
  rw [ea]
  exact c

set_option maxRecDepth 100000 in
set_option maxHeartbeats 3200000 in
theorem repeatAny (w : World) (b : Nat) (v : Int) (N : Nat) (hN : N < 4294967296) (hc : w.cell? ⟨b, 0, none⟩ = some (.int .i64 v)) :
    Calls Tryz.prog 200 #[.slice (some ⟨b, 0, none⟩) 1 1, .int .i64 N] w fun e w' => ∃ g, e = .returned (.slice (some ⟨g, 0, none⟩) N N) ∧ Rw w' g .i64 3 (List.replicate N v) ∧ w.heap.size ≤ g ∧ Below w.heap.size w w' := by
  obtain ⟨i0, hi, hz0, hz1, hz2⟩ := info_parts infoI
  have C := mulOne w N hN
  have hw : IntKind.u64.wrap (N : Int) = (N : Int) := by rw [IntKind.wrap_u64]; omega
  have hbl : b < w.heap.size := by
    by_cases h : b < w.heap.size
    · exact h
    · simp [World.cell?, show w.heap[b]? = none by simp; omega] at hc
  have n1 : (N : Int) ≤ 9223372036854775807 := by omega
  go_enter Tryz.func200, Tryz.ntmps200
  go_wp2_with fail
  refine C.mono ?_
  clear C
  rintro e w1 ⟨rfl, rfl⟩
  have hS : ∀ (w2 : World), w.grownBy w2 none → ∀ (j : Nat) (u : Value), (List.replicate (Nat.min 1 N) (Value.int .i64 v))[j]? = some u → w2.cell? ((⟨b, 0, none⟩ : Addr).add j) = some u := by
    intro w2 hg j u hu
    have hj : j < Nat.min 1 N := by
      have := (List.getElem?_eq_some_iff.1 hu).1
      simpa using this
    have h1 : Nat.min 1 N ≤ 1 := Nat.min_le_left _ _
    obtain rfl : j = 0 := by omega
    have : u = .int .i64 v := by
      have := List.mem_of_getElem? hu
      exact List.eq_of_mem_replicate this
    rw [this]
    exact hg.cell hc (by simp)
  have HC := Lib.hid hS
  have HB := Lib.hid (And.intro hbl hc)
  obtain ⟨Z, hZ⟩ : ∃ Z, Z = List.replicate (Nat.min 1 N) (Value.int .i64 v) := ⟨_, rfl⟩
  have HZ := Lib.hid hZ
  have HZ1 := Lib.hid (show Z.length = Nat.min 1 N by rw [hZ]; simp)
  have HZ2 := Lib.hid (show ∀ u ∈ Z, u.oneCell' = true from fun u hu => by rw [hZ] at hu; rw [List.eq_of_mem_replicate hu]; rfl)
  rw [← hZ] at HC
  clear hS hc hbl hZ
  go_wp2_with (first
    | (at_make; refine wpList_make_full _ rfl _ _ 33 rfl w.heap.size 3 i0 _ 1 Tryz.underlying33 hi hz0 hz1 .i64 .i64 _ _ N rfl rfl rfl rfl (by rw [hz2]; omega) (by simp only [maxLen]; omega) (Nat.le_refl _) ?_; intro w2 hown2 hgrow2; have HM := Lib.hid (madeRow (k := .i64) hown2 hgrow2); have HG := Lib.hid hgrow2; clear hown2 hgrow2)
    | (refine wpList_copy_splice rfl (.tmp 31) (.tmp 32) 33 33 rfl 3 Tryz.underlying33 sizeI _ _ _ _ _ _ rfl rfl w.heap.size 0 ((List.replicate N (0 : Int)).map (Value.int .i64)) 3 HM.out.1 Z HZ1.out (fun hp => ⟨rfl, _, rfl, HC.out _ HG.out⟩) (by rw [HZ1.out]; simp; exact Nat.min_le_right _ _) HZ2.out w.heap.size w HM.out.2 (Nat.le_refl _) ?_; intro w3 hg3 hb3))
  have HR := Lib.hid (show RepR v N w.heap.size w (Nat.min 1 N) w3 from ⟨by unfold Rw; rw [hg3.out, HZ.out, rep_first], hb3⟩)
  rw [HZ1.out]
  have hm1 : Nat.min 1 N ≤ N := Nat.min_le_right _ _
  have hm2 : 0 < N → 0 < Nat.min 1 N := fun h => Nat.lt_min.2 ⟨by omega, h⟩
  generalize Nat.min 1 N = m1 at *
  generalize hgg : w.heap.size = g at *
  clear HC HB HZ HZ1 HZ2 HM HG hg3 hb3 Z
  go_loopw [8] (fun i wr => ∃ j : Nat, j ≤ N ∧ (0 < N → 0 < j) ∧ i = .int .i64 j ∧ Hid (RepR v N g w j wr)) (fun i _ => N - (intOf i).toNat)
  case atStart => exact ⟨m1, hm1, hm2, rfl, HR⟩
  case round =>
    obtain ⟨j, hj, hj0, rfl, hp⟩ := hrel
    clear HR hm1 hm2
    by_cases hlt : j < N
    · have i1 : (j : Int) < (N : Int) := by omega
      have hj1 := hj0 (by omega)
      obtain ⟨m, hm⟩ : ∃ m, m = Nat.min j (N - j) := ⟨_, rfl⟩
      have hma : m ≤ j := by rw [hm]; exact Nat.min_le_left _ _
      have hmb : m ≤ N - j := by rw [hm]; exact Nat.min_le_right _ _
      have hmc : 0 < m := by rw [hm]; exact Nat.lt_min.2 ⟨hj1, by omega⟩
      have HM := Lib.hid hm
      have ew : IntKind.i64.wrap ((j : Int) + (m : Int)) = ((j + m : Nat) : Int) := by rw [IntKind.wrap_i64]; omega
      have hl := hp.out.1.lt
      clear hm
      go_wp2
      have HD := Lib.hid (show RepR v N g w j wr.drew from ⟨hp.out.1.below (Below.refl _ _).drew, hp.out.2.drew⟩)
      clear hp
      go_region_held_law (fun _ => True) (exact trivial) ((refine step_copy_splice rfl (.tmp 41) (.tmp 44) 33 33 rfl 3 Tryz.underlying33 sizeI _ _ _ _ _ _ rfl rfl g j ((repL v N j).map (Value.int .i64)) 3 HD.out.1 (List.replicate m (Value.int .i64 v)) (by rw [List.length_replicate, HM.out]) (fun hp0 => ⟨by rw [if_neg (show ¬ N = j by omega)], _, rfl, HD.out.src hj m hma⟩) (by rw [List.length_replicate, List.length_map, repL_length v hj]; omega) (fun u hu => by rw [List.eq_of_mem_replicate hu]; rfl) w.heap.size w HD.out.2 (by omega) ?_; intro w4 hg4 hb4))
      have HR4 := Lib.hid (show RepR v N g w (j + m) w4 from ⟨by unfold Rw; rw [hg4.out, rep_splice v N j m (by omega)], hb4⟩)
      clear hg4 hb4 HD
      go_roundw
      case rel => exact ⟨.int .i64 ((j + m : Nat) : Int), _, _, _, _, _, _, _, _, _, _, _, _, _, ⟨j + m, by omega, fun _ => by omega, rfl, HR4⟩, by rfl⟩
      case measure => clear ew; simp [intOf]; omega
    · obtain rfl : j = N := by omega
      clear hlt
      go_wp2
      go_ret
      refine ⟨g, rfl, ?_, by omega, hp.out.2⟩
      have := hp.out.1
      simpa [repL] using this

end Go.Proofs.YtkbhemaijbkpbaaGreat.D10
namespace Go.Proofs.YtkbhemaijbkpbaaGreat.D10
open Go.RowKit

theorem litOne (w : World) (v : Int) : ∀ W, w.alloc (.cells #[.int .i64 v] 3) = W → W.cell? ⟨w.heap.size, 0, none⟩ = some (.int .i64 v) ∧ Below w.heap.size w W := by
  rintro W rfl
  exact ⟨by go_simp, (Below.refl _ _).alloc (Nat.le_refl _) _⟩

/-- A new row. -/
def NewRow (w : World) (t : Nat) (most : Int) (n : Nat) (e : Ending) (w' : World) : Prop :=
  ∃ p g h, e = .returned (.pointer (some ⟨p, 0, none⟩)) ∧ Slots w' p most g h n t 0 (List.replicate t (-1)) (List.replicate n (-1)) ∧ w.heap.size ≤ p ∧ w.heap.size ≤ g ∧ w.heap.size ≤ h ∧ Below w.heap.size w w'

theorem newSlots {w w4 : World} {g h t n : Nat} {most : Int} (hb : Below w.heap.size w w4) (hg : w.heap.size ≤ g) (hgh : g < h) (rg : Rw w4 g .i64 3 (List.replicate (n + t + n) (-1))) (rh : Rw w4 h .i64 3 (List.replicate n (-1))) :
    NewRow w t most n (.returned (.pointer (some ⟨w4.heap.size, 0, none⟩))) (w4.alloc (.cells #[.int .i64 most, .slice (some ⟨g, 0, none⟩) (n + t + n) (n + t + n), .int .i64 ((n : Int) - 1), .int .i64 (-1), .int .i64 ((n : Int) + (t : Int)), .int .i64 1, .slice (some ⟨h, 0, none⟩) n n] 259)) := by
  have lg := rg.lt
  have lh := rh.lt
  have hs := hb.size
  refine ⟨w4.heap.size, g, h, rfl, ⟨⟨_, n, SlotsOk.start n t, ?_, rg.keep (Below.heap_alloc _ _ _ lg)⟩, rh.keep (Below.heap_alloc _ _ _ lh), by simp, by omega, by omega, by omega⟩, hs, hg, by omega, hb.alloc hs _⟩
  rw [List.length_replicate, show ((n + t : Nat) : Int) = (n : Int) + (t : Int) by omega]
  exact heap_alloc_new w4 _

set_option maxRecDepth 100000 in
set_option maxHeartbeats 3200000 in
theorem rowOfAny (w : World) (t : Nat) (most : Int) (n : Nat) (ht : t ≤ 1000) (hn : n ≤ 1000000) :
    Calls Tryz.prog 194 #[.int .i64 t, .int .i64 most, .int .i64 n] w (NewRow w t most n) := by
  have e1 : IntKind.i64.wrap ((n : Int) + (t : Int)) = ((n + t : Nat) : Int) := by rw [IntKind.wrap_i64]; omega
  have e2 : IntKind.i64.wrap (((n + t : Nat) : Int) + (n : Int)) = ((n + t + n : Nat) : Int) := by rw [IntKind.wrap_i64]; omega
  have e3 : IntKind.i64.wrap ((n : Int) - 1) = (n : Int) - 1 := by rw [IntKind.wrap_i64]; omega
  go_enter Tryz.func194, Tryz.ntmps194
  go_wp2_with fail
  generalize hW : w.alloc (.cells #[.int .i64 (-1)] 3) = W1
  obtain ⟨c1, b1⟩ := litOne w (-1) W1 hW
  clear hW
  have C := repeatAny W1 w.heap.size (-1) (n + t + n) (by omega) c1
  rw [show ((n + t + n : Nat) : Int) = (n : Int) + (t : Int) + (n : Int) by omega] at C
  refine C.mono ?_
  clear C
  rintro e w2 ⟨g, rfl, r2, g2, b2⟩
  have HB1 := Lib.hid b1
  have HB2 := Lib.hid (b1.trans (b2.mono b1.size))
  have HG := Lib.hid (show w.heap.size ≤ g from Nat.le_trans b1.size g2)
  have HR := Lib.hid r2
  clear c1 b1 b2 r2 g2
  go_wp2_with fail
  generalize hW : w2.alloc (.cells #[.int .i64 (-1)] 3) = W3
  obtain ⟨c3, b3⟩ := litOne w2 (-1) W3 hW
  clear hW
  have C := repeatAny W3 w2.heap.size (-1) n (by omega) c3
  refine C.mono ?_
  clear C
  rintro e w4 ⟨h, rfl, r4, g4, b4⟩
  have HB4 := Lib.hid (HB2.out.trans ((b3.trans (b4.mono b3.size)).mono HB2.out.size))
  have HR4 := Lib.hid (HR.out.below (b3.trans (b4.mono b3.size)))
  have HH := Lib.hid (show w2.heap.size ≤ h from Nat.le_trans b3.size g4)
  have HH4 := Lib.hid r4
  have HL := Lib.hid HR.out.lt
  clear c3 b3 b4 r4 g4 HR HB1 HB2 e2
  go_wp2
  go_ret
  exact newSlots HB4.out HG.out (Nat.lt_of_lt_of_le HL.out HH.out) HR4.out HH4.out

end Go.Proofs.YtkbhemaijbkpbaaGreat.D10
namespace Go.Proofs.YtkbhemaijbkpbaaGreat.D10
open Go.RowKit

section
variable {w w' : World} {g : Nat} {k v : Int}
end

end Go.Proofs.YtkbhemaijbkpbaaGreat.D10
