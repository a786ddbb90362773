/-
  slices.Repeat of one int, as the program's own text says it: as many of it as asked. Conditions: at most 2^32. rowOf of package ends: a new row. Conditions: at most a million operations. An operation in a block of its own. Conditions: none. through of package ends: operations that come one behind the other to a row. Conditions: a row as Slots says; operations that lie in memory, beside it, at most a million. What Pairs of package ends answers. Conditions: operations that lie in memory, at most a million.
-/
import Derived.Test.YtikaoikladbdpaaGreatG1316
import Derived.Test.YtikaoikladbdpaaGreatQDSlots10m
import Derived.Laws.Bits64b
import Derived.Laws.CopyOwn
import Derived.Deep.RegionHeldLaw
import Derived.Deep.CutRange
namespace Go.Proofs.YtikaoikladbdpaaGreat.D10
open Go.RowKit

set_option maxRecDepth 100000 in
set_option maxHeartbeats 3200000 in
theorem mul64One (w : World) (y : Nat) (hy : y < 4294967296) :
    Calls Tryz.prog 204 #[.int .u64 1, .int .u64 y] w fun e w' => e = .returned (.tuple #[.int .u64 0, .int .u64 y]) ∧ w = w' := by
  have ha : bits .and .u64 (y : Int) 4294967295 = (y : Int) := by
    have h := bits_and_u64_nat y 4294967295 (by omega) (by omega)
    have e : y &&& 4294967295 = y := by
      have : y &&& 4294967295 = y % 4294967296 := Nat.and_two_pow_sub_one_eq_mod y 32
      rw [this]; omega
    rw [e] at h
    exact h
  have hd : (y : Int) / 4294967296 = 0 := by omega
  have hw : IntKind.u64.wrap (y : Int) = (y : Int) := by rw [IntKind.wrap_u64]; omega
  have h0 : bits .and .u64 0 4294967295 = 0 := by
    have h := bits_and_u64_nat 0 4294967295 (by omega) (by omega)
    simpa using h
  have h1 : bits .and .u64 1 4294967295 = 1 := by
    have h := bits_and_u64_nat 1 4294967295 (by omega) (by omega)
    have e : 1 &&& 4294967295 = 1 := by
      have : 1 &&& 4294967295 = 1 % 4294967296 := Nat.and_two_pow_sub_one_eq_mod 1 32
      rw [this]
    rw [e] at h
    exact h
  go_enter Tryz.func204, Tryz.ntmps204
  go_wp2
  go_ret2
  exact ⟨rfl, rfl⟩

set_option maxRecDepth 100000 in
set_option maxHeartbeats 1600000 in
theorem mulOne (w : World) (y : Nat) (hy : y < 4294967296) :
    Calls Tryz.prog 202 #[.int .u64 1, .int .u64 y] w fun e w' => e = .returned (.tuple #[.int .u64 0, .int .u64 y]) ∧ w = w' := by
  have C := mul64One w y hy
  have hw : IntKind.u64.wrap (y : Int) = (y : Int) := by rw [IntKind.wrap_u64]; omega
  go_enter Tryz.func202, Tryz.ntmps202
  go_wp2_with fail
  refine C.mono ?_
  rintro e w1 ⟨rfl, rfl⟩
  go_wp2
  go_ret2
  exact ⟨rfl, rfl⟩

theorem sizeI : (Tryz.prog.info? 3).map (·.size) = some 1 := by kernel_rfl

def repL (v : Int) (N j : Nat) : List Int := List.replicate j v ++ List.replicate (N - j) 0
theorem rep_splice (v : Int) (N j m : Nat) (h : j + m ≤ N) : splice ((repL v N j).map (Value.int .i64)) j (List.replicate m (Value.int .i64 v)) = (repL v N (j + m)).map (Value.int .i64) := by
  unfold splice repL
  rw [List.map_append, List.map_append, List.map_replicate, List.map_replicate, List.map_replicate, List.map_replicate, List.take_left' (by simp), List.length_replicate, ← List.drop_drop, List.drop_left' (by simp), List.drop_replicate, ← List.append_assoc, List.replicate_append_replicate, show N - j - m = N - (j + m) by omega]
theorem repL_length (v : Int) {N j : Nat} (h : j ≤ N) : (repL v N j).length = N := by simp [repL]; omega
theorem rep_first (v : Int) (N : Nat) : splice ((List.replicate N (0 : Int)).map (Value.int .i64)) 0 (List.replicate (Nat.min 1 N) (Value.int .i64 v)) = (repL v N (Nat.min 1 N)).map (Value.int .i64) := by
  have := rep_splice v N 0 (Nat.min 1 N) (by rw [Nat.zero_add]; exact Nat.min_le_right 1 N)
  simpa [repL] using this
def RepR (v : Int) (N g : Nat) (w : World) (j : Nat) (wr : World) : Prop := Rw wr g .i64 3 (repL v N j) ∧ Below w.heap.size w wr
theorem RepR.src {v : Int} {N g : Nat} {w : World} {j : Nat} {wr : World} (h : RepR v N g w j wr) (hj : j ≤ N) (m : Nat) (hm : m ≤ j) (i : Nat) (u : Value) (hu : (List.replicate m (Value.int .i64 v))[i]? = some u) : wr.cell? ((⟨g, 0, none⟩ : Addr).add i) = some u := by
  have hi : i < m := by
    have := (List.getElem?_eq_some_iff.1 hu).1
    simpa using this
  have e : u = .int .i64 v := List.eq_of_mem_replicate (List.mem_of_getElem? hu)
  have c := h.1.cell (i := i) (by rw [repL_length v hj]; omega)
  rw [e]
  have hv : (repL v N j).getD i 0 = v := by
    unfold repL
    simp [List.getD, List.getElem?_append_left (show i < (List.replicate j v).length by simp; omega), show i < j by omega]
  rw [hv] at c
  have ea : (⟨g, 0, none⟩ : Addr).add i = ⟨g, i, none⟩ := by
    unfold Addr.add
    simp
    intro h; exact h.symm
  rw [ea]
  exact c

set_option maxRecDepth 100000 in
set_option maxHeartbeats 3200000 in
theorem repeatAny (w : World) (b : Nat) (v : Int) (N : Nat) (hN : N < 4294967296) (hc : w.cell? ⟨b, 0, none⟩ = some (.int .i64 v)) :
    Calls Tryz.prog 200 #[.slice (some ⟨b, 0, none⟩) 1 1, .int .i64 N] w fun e w' => ∃ g, e = .returned (.slice (some ⟨g, 0, none⟩) N N) ∧ Rw w' g .i64 3 (List.replicate N v) ∧ w.heap.size ≤ g ∧ Below w.heap.size w w' := by
  obtain ⟨i0, hi, hz0, hz1, hz2⟩ := info_parts infoI
  have C := mulOne w N hN
  have hw : IntKind.u64.wrap (N : Int) = (N : Int) := by rw [IntKind.wrap_u64]; omega
  have hbl : b < w.heap.size := by
    by_cases h : b < w.heap.size
    · exact h
    · simp [World.cell?, show w.heap[b]? = none by simp; omega] at hc
  have n1 : (N : Int) ≤ 9223372036854775807 := by omega
  go_enter Tryz.func200, Tryz.ntmps200
  go_wp2_with fail
  refine C.mono ?_
  clear C
  rintro e w1 ⟨rfl, rfl⟩
  have hS : ∀ (w2 : World), w.grownBy w2 none → ∀ (j : Nat) (u : Value), (List.replicate (Nat.min 1 N) (Value.int .i64 v))[j]? = some u → w2.cell? ((⟨b, 0, none⟩ : Addr).add j) = some u := by
    intro w2 hg j u hu
    have hj : j < Nat.min 1 N := by
      have := (List.getElem?_eq_some_iff.1 hu).1
      simpa using this
    have h1 : Nat.min 1 N ≤ 1 := Nat.min_le_left _ _
    obtain rfl : j = 0 := by omega
    have : u = .int .i64 v := by
      have := List.mem_of_getElem? hu
      exact List.eq_of_mem_replicate this
    rw [this]
    exact hg.cell hc (by simp)
  have HC := Lib.hid hS
  have HB := Lib.hid (And.intro hbl hc)
  obtain ⟨Z, hZ⟩ : ∃ Z, Z = List.replicate (Nat.min 1 N) (Value.int .i64 v) := ⟨_, rfl⟩
  have HZ := Lib.hid hZ
  have HZ1 := Lib.hid (show Z.length = Nat.min 1 N by rw [hZ]; simp)
  have HZ2 := Lib.hid (show ∀ u ∈ Z, u.oneCell' = true from fun u hu => by rw [hZ] at hu; rw [List.eq_of_mem_replicate hu]; rfl)
  rw [← hZ] at HC
  clear hS hc hbl hZ
  go_wp2_with (first
    | (at_make; refine wpList_make_full _ rfl _ _ 33 rfl w.heap.size 3 i0 _ 1 Tryz.underlying33 hi hz0 hz1 .i64 .i64 _ _ N rfl rfl rfl rfl (by rw [hz2]; omega) (by simp only [maxLen]; omega) (Nat.le_refl _) ?_; intro w2 hown2 hgrow2; have HM := Lib.hid (madeRow (k := .i64) hown2 hgrow2); have HG := Lib.hid hgrow2; clear hown2 hgrow2)
    | (refine wpList_copy_splice rfl (.tmp 31) (.tmp 32) 33 33 rfl 3 Tryz.underlying33 sizeI _ _ _ _ _ _ rfl rfl w.heap.size 0 ((List.replicate N (0 : Int)).map (Value.int .i64)) 3 HM.out.1 Z HZ1.out (fun hp => ⟨rfl, _, rfl, HC.out _ HG.out⟩) (by rw [HZ1.out]; simp; exact Nat.min_le_right _ _) HZ2.out w.heap.size w HM.out.2 (Nat.le_refl _) ?_; intro w3 hg3 hb3))
  have HR := Lib.hid (show RepR v N w.heap.size w (Nat.min 1 N) w3 from ⟨by unfold Rw; rw [hg3.out, HZ.out, rep_first], hb3⟩)
  rw [HZ1.out]
  have hm1 : Nat.min 1 N ≤ N := Nat.min_le_right _ _
  have hm2 : 0 < N → 0 < Nat.min 1 N := fun h => Nat.lt_min.2 ⟨by omega, h⟩
  generalize Nat.min 1 N = m1 at *
  generalize hgg : w.heap.size = g at *
  clear HC HB HZ HZ1 HZ2 HM HG hg3 hb3 Z
  go_loopw [8] (fun i wr => ∃ j : Nat, j ≤ N ∧ (0 < N → 0 < j) ∧ i = .int .i64 j ∧ Hid (RepR v N g w j wr)) (fun i _ => N - (intOf i).toNat)
  case atStart => exact ⟨m1, hm1, hm2, rfl, HR⟩
  case round =>
    obtain ⟨j, hj, hj0, rfl, hp⟩ := hrel
    clear HR hm1 hm2
    by_cases hlt : j < N
    · have i1 : (j : Int) < (N : Int) := by omega
      have hj1 := hj0 (by omega)
      obtain ⟨m, hm⟩ : ∃ m, m = Nat.min j (N - j) := ⟨_, rfl⟩
      have hma : m ≤ j := by rw [hm]; exact Nat.min_le_left _ _
      have hmb : m ≤ N - j := by rw [hm]; exact Nat.min_le_right _ _
      have hmc : 0 < m := by rw [hm]; exact Nat.lt_min.2 ⟨hj1, by omega⟩
      have HM := Lib.hid hm
      have ew : IntKind.i64.wrap ((j : Int) + (m : Int)) = ((j + m : Nat) : Int) := by rw [IntKind.wrap_i64]; omega
      have hl := hp.out.1.lt
      clear hm
      go_wp2
      have HD := Lib.hid (show RepR v N g w j wr.drew from ⟨hp.out.1.below (Below.refl _ _).drew, hp.out.2.drew⟩)
      clear hp
      go_region_held_law (fun _ => True) (exact trivial) ((refine step_copy_splice rfl (.tmp 41) (.tmp 44) 33 33 rfl 3 Tryz.underlying33 sizeI _ _ _ _ _ _ rfl rfl g j ((repL v N j).map (Value.int .i64)) 3 HD.out.1 (List.replicate m (Value.int .i64 v)) (by rw [List.length_replicate, HM.out]) (fun hp0 => ⟨by rw [if_neg (show ¬ N = j by omega)], _, rfl, HD.out.src hj m hma⟩) (by rw [List.length_replicate, List.length_map, repL_length v hj]; omega) (fun u hu => by rw [List.eq_of_mem_replicate hu]; rfl) w.heap.size w HD.out.2 (by omega) ?_; intro w4 hg4 hb4))
      have HR4 := Lib.hid (show RepR v N g w (j + m) w4 from ⟨by unfold Rw; rw [hg4.out, rep_splice v N j m (by omega)], hb4⟩)
      clear hg4 hb4 HD
      go_roundw
      case rel => exact ⟨.int .i64 ((j + m : Nat) : Int), _, _, _, _, _, _, _, _, _, _, _, _, _, ⟨j + m, by omega, fun _ => by omega, rfl, HR4⟩, by rfl⟩
      case measure => clear ew; simp [intOf]; omega
    · obtain rfl : j = N := by omega
      clear hlt
      go_wp2
      go_ret
      refine ⟨g, rfl, ?_, by omega, hp.out.2⟩
      have := hp.out.1
      simpa [repL] using this

end Go.Proofs.YtikaoikladbdpaaGreat.D10
namespace Go.Proofs.YtikaoikladbdpaaGreat.D10
open Go.RowKit

theorem litOne (w : World) (v : Int) : ∀ W, w.alloc (.cells #[.int .i64 v] 3) = W → W.cell? ⟨w.heap.size, 0, none⟩ = some (.int .i64 v) ∧ Below w.heap.size w W := by
  rintro W rfl
  exact ⟨by go_simp, (Below.refl _ _).alloc (Nat.le_refl _) _⟩

def NewRow (w : World) (t : Nat) (most : Int) (n : Nat) (e : Ending) (w' : World) : Prop :=
  ∃ p g h, e = .returned (.pointer (some ⟨p, 0, none⟩)) ∧ Slots w' p most g h n t 0 (List.replicate t (-1)) (List.replicate n (-1)) ∧ w.heap.size ≤ p ∧ w.heap.size ≤ g ∧ w.heap.size ≤ h ∧ Below w.heap.size w w'

theorem newSlots {w w4 : World} {g h t n : Nat} {most : Int} (hb : Below w.heap.size w w4) (hg : w.heap.size ≤ g) (hgh : g < h) (rg : Rw w4 g .i64 3 (List.replicate (n + t + n) (-1))) (rh : Rw w4 h .i64 3 (List.replicate n (-1))) :
    NewRow w t most n (.returned (.pointer (some ⟨w4.heap.size, 0, none⟩))) (w4.alloc (.cells #[.int .i64 most, .slice (some ⟨g, 0, none⟩) (n + t + n) (n + t + n), .int .i64 ((n : Int) - 1), .int .i64 (-1), .int .i64 ((n : Int) + (t : Int)), .int .i64 1, .slice (some ⟨h, 0, none⟩) n n] 259)) := by
  have lg := rg.lt
  have lh := rh.lt
  have hs := hb.size
  refine ⟨w4.heap.size, g, h, rfl, ⟨⟨_, n, SlotsOk.start n t, ?_, rg.keep (Below.heap_alloc _ _ _ lg)⟩, rh.keep (Below.heap_alloc _ _ _ lh), by simp, by omega, by omega, by omega⟩, hs, hg, by omega, hb.alloc hs _⟩
  rw [List.length_replicate, show ((n + t : Nat) : Int) = (n : Int) + (t : Int) by omega]
  exact heap_alloc_new w4 _

set_option maxRecDepth 100000 in
set_option maxHeartbeats 3200000 in
theorem rowOfAny (w : World) (t : Nat) (most : Int) (n : Nat) (ht : t ≤ 1000) (hn : n ≤ 1000000) :
    Calls Tryz.prog 194 #[.int .i64 t, .int .i64 most, .int .i64 n] w (NewRow w t most n) := by
  have e1 : IntKind.i64.wrap ((n : Int) + (t : Int)) = ((n + t : Nat) : Int) := by rw [IntKind.wrap_i64]; omega
  have e2 : IntKind.i64.wrap (((n + t : Nat) : Int) + (n : Int)) = ((n + t + n : Nat) : Int) := by rw [IntKind.wrap_i64]; omega
  have e3 : IntKind.i64.wrap ((n : Int) - 1) = (n : Int) - 1 := by rw [IntKind.wrap_i64]; omega
  go_enter Tryz.func194, Tryz.ntmps194
  go_wp2_with fail
  generalize hW : w.alloc (.cells #[.int .i64 (-1)] 3) = W1
  obtain ⟨c1, b1⟩ := litOne w (-1) W1 hW
  clear hW
  have C := repeatAny W1 w.heap.size (-1) (n + t + n) (by omega) c1
  rw [show ((n + t + n : Nat) : Int) = (n : Int) + (t : Int) + (n : Int) by omega] at C
  refine C.mono ?_
  clear C
  rintro e w2 ⟨g, rfl, r2, g2, b2⟩
  have HB1 := Lib.hid b1
  have HB2 := Lib.hid (b1.trans (b2.mono b1.size))
  have HG := Lib.hid (show w.heap.size ≤ g from Nat.le_trans b1.size g2)
  have HR := Lib.hid r2
  clear c1 b1 b2 r2 g2
  go_wp2_with fail
  generalize hW : w2.alloc (.cells #[.int .i64 (-1)] 3) = W3
  obtain ⟨c3, b3⟩ := litOne w2 (-1) W3 hW
  clear hW
  have C := repeatAny W3 w2.heap.size (-1) n (by omega) c3
  refine C.mono ?_
  clear C
  rintro e w4 ⟨h, rfl, r4, g4, b4⟩
  have HB4 := Lib.hid (HB2.out.trans ((b3.trans (b4.mono b3.size)).mono HB2.out.size))
  have HR4 := Lib.hid (HR.out.below (b3.trans (b4.mono b3.size)))
  have HH := Lib.hid (show w2.heap.size ≤ h from Nat.le_trans b3.size g4)
  have HH4 := Lib.hid r4
  have HL := Lib.hid HR.out.lt
  clear c3 b3 b4 r4 g4 HR HB1 HB2 e2
  go_wp2
  go_ret
  exact newSlots HB4.out HG.out (Nat.lt_of_lt_of_le HL.out HH.out) HR4.out HH4.out

end Go.Proofs.YtikaoikladbdpaaGreat.D10
namespace Go.Proofs.YtikaoikladbdpaaGreat.D10
open Go.RowKit

section
variable {w w' : World} {g : Nat} {k v : Int}
end

end Go.Proofs.YtikaoikladbdpaaGreat.D10
namespace Go.Proofs.YtikaoikladbdpaaGreat.D10
open Go.RowKit

structure TI (w0 : World) (p g h c n t : Nat) (most : Int) (s0 : List Int) (ks : Nat → Int) (k : Nat) (W : World) : Prop where
  row : Slots W p most g h n t k (dqAt most s0 ks k) (dpK most s0 ks n k)
  cod : Rw W c .u8 5 (dcK most s0 ks n k)
  wr : Wrote (Own3 p g h) w0 W
  cf : w0.heap.size ≤ c
  off : ¬ Own3 p g h c
  pf : ∀ x, Own3 p g h x → x < w0.heap.size

section
variable {w0 W W' : World} {p g h c n t k : Nat} {most : Int} {s0 : List Int} {ks : Nat → Int}
theorem TI.fresh (r : TI w0 p g h c n t most s0 ks k W) (hb : Below W.heap.size W W') : TI w0 p g h c n t most s0 ks k W' := by
  obtain ⟨h1, h2, h3, h4, h5, h6⟩ := r
  exact ⟨h1.fresh hb, h2.below hb, h3.trans (Wrote.of hb _), h4, h5, h6⟩
structure TM (w0 : World) (p g h c n t : Nat) (most : Int) (s0 : List Int) (ks : Nat → Int) (k : Nat) (W : World) : Prop where
  row : Slots W p most g h n t (k + 1) (dqAt most s0 ks (k + 1)) (dpK most s0 ks n (k + 1))
  cod : Rw W c .u8 5 (dcK most s0 ks n k)
  wr : Wrote (Own3 p g h) w0 W
  cf : w0.heap.size ≤ c
  off : ¬ Own3 p g h c
  pf : ∀ x, Own3 p g h x → x < w0.heap.size
theorem TM.tell (r : TM w0 p g h c n t most s0 ks k W) (hk : k < n) {z : Int} (hz : z = dqC most (dqAt most s0 ks k) (ks k)) : TI w0 p g h c n t most s0 ks (k + 1) (W.setCell ⟨c, k, none⟩ (.int .u8 z)) := by
  obtain ⟨h1, h2, h3, h4, h5, h6⟩ := r
  have hw : Wrote (fun x => x = c) W (W.setCell ⟨c, k, none⟩ (.int .u8 z)) := (Wrote.refl (fun x => x = c) W).setCell (q := ⟨c, k, none⟩) (.inr rfl) _
  refine ⟨h1.off hw (fun e => h5 (.inl e.symm)) (fun e => h5 (.inr (.inl e.symm))) (fun e => h5 (.inr (.inr e.symm))), ?_, h3.setCell (q := ⟨c, k, none⟩) (.inl h4) _, h4, h5, h6⟩
  rw [hz, ← dcK_put hk]
  exact h2.set k _
theorem TI.next (r : TI w0 p g h c n t most s0 ks k W) {s' ds' : List Int} (hs : Slots W' p most g h n t (k + 1) s' ds') (hw : Wrote (Own3 p g h) W W') (e1 : s' = dqAt most s0 ks (k + 1)) (e2 : ds' = dpK most s0 ks n (k + 1)) : TM w0 p g h c n t most s0 ks k W' := by
  obtain ⟨h1, h2, h3, h4, h5, h6⟩ := r
  subst e1 e2
  exact ⟨hs, h2.keep (hw.block _ h2.lt h5), h3.trans hw, h4, h5, h6⟩
theorem TI.idle (r : TI w0 p g h c n t most s0 ks k W) (hk : k < n) (e1 : dqAt most s0 ks (k + 1) = dqAt most s0 ks k) (e2 : dqP (dqAt most s0 ks k) (ks k) = -1) : TM w0 p g h c n t most s0 ks k W := by
  obtain ⟨h1, h2, h3, h4, h5, h6⟩ := r
  exact ⟨by rw [e1, ← dpK_same hk e2]; exact h1.stay, h2, h3, h4, h5, h6⟩
end

section
variable {w0 W : World} {p g h c n t k : Nat} {most : Int} {s0 : List Int} {ks : Nat → Int}
def StepPost (w0 : World) (p g h c n t : Nat) (most : Int) (s0 : List Int) (ks : Nat → Int) (k : Nat) (e : Ending) (w' : World) : Prop :=
  ∃ z, e = .returned (.int .u8 z) ∧ z = dqC most (dqAt most s0 ks k) (ks k) ∧ TM w0 p g h c n t most s0 ks k w'

theorem putStep (r : TI w0 p g h c n t most s0 ks k W) (hk : k < n) (hn : n ≤ 1000000) (ht : t ≤ 1000) (right : Bool) (hkd : ks k = if right then 2 else 1) :
    Calls Tryz.prog 196 #[.pointer (some ⟨p, 0, none⟩), .int .i64 (if right then 1 else 0), .int .i64 k] W (StepPost w0 p g h c n t most s0 ks k) := by
  by_cases hf : ((dqAt most s0 ks k).length : Int) < most
  · cases right
    · simp only [Bool.false_eq_true, if_false] at hkd ⊢
      refine (putLeft r.row (by omega) ht hk hf).mono ?_
      rintro e w' ⟨rfl, h1, h2⟩
      refine ⟨1, rfl, by simp [dqC, hkd, hf], r.next h1 h2 (by simp [dqAt, dqL, hkd, hf]) ?_⟩
      exact dpK_same hk (by simp [dqP, hkd])
    · simp only [if_true] at hkd ⊢
      refine (putRight r.row (by omega) ht hk hf).mono ?_
      rintro e w' ⟨rfl, h1, h2⟩
      refine ⟨1, rfl, by simp [dqC, hkd, hf], r.next h1 h2 (by simp [dqAt, dqL, hkd, hf]) ?_⟩
      exact dpK_same hk (by simp [dqP, hkd])
  · refine (putFull r.row (by omega) ht (by omega) hf _ _).mono ?_
    rintro e w' ⟨rfl, hb⟩
    refine ⟨3, rfl, by cases right <;> simp [dqC, hkd, hf], (r.fresh hb).idle hk (by cases right <;> simp [dqAt, dqL, hkd, hf]) (by cases right <;> simp [dqP, hkd])⟩

theorem takeStep (r : TI w0 p g h c n t most s0 ks k W) (hk : k < n) (hn : n ≤ 1000000) (ht : t ≤ 1000) (right : Bool) (hkd : ks k = if right then 4 else 3) :
    Calls Tryz.prog 197 #[.pointer (some ⟨p, 0, none⟩), .int .i64 (if right then 1 else 0), .int .i64 k] W (StepPost w0 p g h c n t most s0 ks k) := by
  have hr := r.row
  generalize hs : dqAt most s0 ks k = s at *
  by_cases h0 : s = []
  · subst h0
    refine (takeNone hr (by omega) ht (by omega) _ _).mono ?_
    rintro e w' ⟨rfl, hb⟩
    refine ⟨4, rfl, by cases right <;> simp [dqC, hkd, hs], (r.fresh hb).idle hk (by cases right <;> simp [dqAt, dqL, hkd, hs]) (by cases right <;> simp [dqP, hkd, hs])⟩
  · cases right
    · simp only [Bool.false_eq_true, if_false] at hkd ⊢
      cases s with
      | nil => exact absurd rfl h0
      | cons z l =>
        refine (takeLeft hr (by omega) ht hk).mono ?_
        rintro e w' ⟨rfl, h1, h2⟩
        refine ⟨2, rfl, by simp [dqC, hkd, hs], r.next h1 h2 (by simp [dqAt, dqL, hkd, hs]) ?_⟩
        rw [← dpK_put hk]
        simp [dqP, hkd, hs]
    · simp only [if_true] at hkd ⊢
      rcases List.eq_nil_or_concat s with e | ⟨l, z, e⟩
      · exact absurd e h0
      · rw [List.concat_eq_append] at e
        subst e
        refine (takeRight hr (by omega) ht hk).mono ?_
        rintro e w' ⟨rfl, h1, h2⟩
        refine ⟨2, rfl, by simp [dqC, hkd, hs], r.next h1 h2 (by simp [dqAt, dqL, hkd, hs]) ?_⟩
        rw [← dpK_put hk]
        simp [dqP, hkd, hs]
end

def ThruPost (w : World) (p g h n t : Nat) (most : Int) (s0 : List Int) (ks : Nat → Int) (e : Ending) (w' : World) : Prop :=
  ∃ c, e = .returned (.slice (some ⟨c, 0, none⟩) n n) ∧ Rw w' c .u8 5 (dcL most s0 ks n) ∧ Slots w' p most g h n t n (dqAt most s0 ks n) (dpL most s0 ks n) ∧ Wrote (Own3 p g h) w w' ∧ w.heap.size ≤ c

set_option maxRecDepth 100000 in
set_option maxHeartbeats 8000000 in
theorem throughAny {w : World} {p g h n t : Nat} {most : Int} (r : Slots w p most g h n t 0 (List.replicate t (-1)) (List.replicate n (-1))) (pf : ∀ x, Own3 p g h x → x < w.heap.size) (ao : Option Addr) (cap : Nat) (os : List (Int × Int)) (ho : OpsAt w ao n os) (hoff : 0 < n → Off (Own3 p g h) ao) (hn : n ≤ 1000000) (ht : t ≤ 1000) :
    Calls Tryz.prog 195 #[.slice ao n cap, .func (Fn.func 196) #[.pointer (some ⟨p, 0, none⟩)] #[], .func (Fn.func 197) #[.pointer (some ⟨p, 0, none⟩)] #[]] w (ThruPost w p g h n t most (List.replicate t (-1)) (kindsOf os)) := by
  obtain ⟨j0, hj, hy0, hy1, hy2⟩ := info_parts infoU8
  have HO := Lib.hid ho
  have HR := Lib.hid r
  have HF := Lib.hid hoff
  have HP := Lib.hid pf
  clear ho r hoff pf
  go_enter Tryz.func195, Tryz.ntmps195
  go_wp2_with (at_make; refine wpList_make_full _ rfl _ _ 26 rfl w.heap.size 5 j0 _ 1 Tryz.underlying26 hj hy0 hy1 .i64 .i64 _ _ n rfl rfl rfl rfl (by rw [hy2]; omega) (by simp only [maxLen]; omega) (Nat.le_refl _) ?_; intro w2 hown2 hgrow2; have HM := Lib.hid (madeRow (k := .u8) hown2 hgrow2); clear hown2 hgrow2)
  have HI := Lib.hid (show TI w p g h w.heap.size n t most (List.replicate t (-1)) (kindsOf os) 0 w2 from ⟨by rw [dpK_none]; exact HR.out.fresh HM.out.2, by rw [dcK_none]; exact HM.out.1, Wrote.of HM.out.2 _, Nat.le_refl _, fun e => by have := HP.out _ e; omega, HP.out⟩)
  clear HM HR
  generalize hc : w.heap.size = c at *
  go_loopw [15] (fun i wr => ∃ k : Nat, k ≤ n ∧ i = .int .i64 k ∧ Hid (TI w p g h c n t most (List.replicate t (-1)) (kindsOf os) k wr)) (fun i _ => n - (intOf i).toNat)
  case atStart => exact ⟨0, Nat.zero_le _, rfl, HI⟩
  case round =>
    obtain ⟨k, hk, rfl, hp⟩ := hrel
    clear HI
    by_cases hlt : k < n
    · obtain ⟨b, off, rfl, hb, hcs⟩ := HO.out.2 (by omega)
      have hx := hcs k hlt
      have hob := hp.out.wr.block b hb (fun e => HF.out (by omega) _ rfl e)
      have x0 := (World.cell?_of_block (a := ⟨b, off + k * 2, none⟩) hob).trans hx.1
      have x1 := (World.cell?_of_block (a := ⟨b, off + k * 2 + 1, none⟩) hob).trans hx.2
      have HK := Lib.hid (show kindsOf os k = (os.getD k (0, 0)).1 from rfl)
      have i1 : (k : Int) < (n : Int) := by omega
      clear hx hob hcs
      generalize (os.getD k (0, 0)).1 = kd at *
      generalize (os.getD k (0, 0)).2 = v at *
      have HA := Lib.hid (hp.out.fresh (W' := wr.alloc (.cells #[.int .u8 kd, .int .i32 v] 38)) ((Below.refl _ _).alloc (Nat.le_refl _) _))
      have c1 := HA.out.cod.cell (i := k) (by rw [dcK_length hk]; exact hlt)
      have f1 := HA.out.cod.free k
      clear hp
      rcases (show kd = 1 ∨ kd = 2 ∨ kd = 3 ∨ kd = 4 ∨ (¬ kd = 1 ∧ ¬ kd = 2 ∧ ¬ kd = 3 ∧ ¬ kd = 4) by omega) with k1 | k2 | k3 | k4 | k5
      · subst k1
        have C := putStep (right := false) HA.out hlt hn ht HK.out
        simp only [Bool.false_eq_true, if_false, if_true] at C
        go_wp2_with fail
        refine C.mono ?_
        clear C
        rintro e w6 ⟨z6, rfl, hz, hm⟩
        have c6 := hm.cod.cell (i := k) (by rw [dcK_length hk]; exact hlt)
        have f6 := hm.cod.free k
        have HT := Lib.hid (hm.tell hlt hz)
        clear hm hz c1 f1
        generalize (dcK most (List.replicate t (-1)) (kindsOf os) n k).getD k 0 = z at *
        go_wp2
        go_roundw
        case rel => exact ⟨k + 1, by omega, by go_num, HT⟩
        case measure => simp [intOf]; omega
      · subst k2
        have C := putStep (right := true) HA.out hlt hn ht HK.out
        simp only [Bool.false_eq_true, if_false, if_true] at C
        go_wp2_with fail
        refine C.mono ?_
        clear C
        rintro e w6 ⟨z6, rfl, hz, hm⟩
        have c6 := hm.cod.cell (i := k) (by rw [dcK_length hk]; exact hlt)
        have f6 := hm.cod.free k
        have HT := Lib.hid (hm.tell hlt hz)
        clear hm hz c1 f1
        generalize (dcK most (List.replicate t (-1)) (kindsOf os) n k).getD k 0 = z at *
        go_wp2
        go_roundw
        case rel => exact ⟨k + 1, by omega, by go_num, HT⟩
        case measure => simp [intOf]; omega
      · subst k3
        have C := takeStep (right := false) HA.out hlt hn ht HK.out
        simp only [Bool.false_eq_true, if_false, if_true] at C
        go_wp2_with fail
        refine C.mono ?_
        clear C
        rintro e w6 ⟨z6, rfl, hz, hm⟩
        have c6 := hm.cod.cell (i := k) (by rw [dcK_length hk]; exact hlt)
        have f6 := hm.cod.free k
        have HT := Lib.hid (hm.tell hlt hz)
        clear hm hz c1 f1
        generalize (dcK most (List.replicate t (-1)) (kindsOf os) n k).getD k 0 = z at *
        go_wp2
        go_roundw
        case rel => exact ⟨k + 1, by omega, by go_num, HT⟩
        case measure => simp [intOf]; omega
      · subst k4
        have C := takeStep (right := true) HA.out hlt hn ht HK.out
        simp only [Bool.false_eq_true, if_false, if_true] at C
        go_wp2_with fail
        refine C.mono ?_
        clear C
        rintro e w6 ⟨z6, rfl, hz, hm⟩
        have c6 := hm.cod.cell (i := k) (by rw [dcK_length hk]; exact hlt)
        have f6 := hm.cod.free k
        have HT := Lib.hid (hm.tell hlt hz)
        clear hm hz c1 f1
        generalize (dcK most (List.replicate t (-1)) (kindsOf os) n k).getD k 0 = z at *
        go_wp2
        go_roundw
        case rel => exact ⟨k + 1, by omega, by go_num, HT⟩
        case measure => simp [intOf]; omega
      · obtain ⟨k1, k2, k3, k4⟩ := k5
        have hk1 := HK.out
        have hm := HA.out.idle hlt (by simp [dqAt, dqL, hk1, k1, k2, k3, k4]) (by simp [dqP, hk1, k3, k4])
        have HT := Lib.hid (hm.tell hlt (z := 5) (by simp [dqC, hk1, k1, k2, k3, k4]))
        clear hm hk1
        generalize (dcK most (List.replicate t (-1)) (kindsOf os) n k).getD k 0 = z at *
        go_wp2
        go_roundw
        case rel => exact ⟨k + 1, by omega, by go_num, HT⟩
        case measure => simp [intOf]; omega
    · obtain rfl : k = n := by omega
      clear hlt
      go_wp2
      go_ret
      have h6 := hp.out
      have h2 := h6.cod
      have h1 := h6.row
      rw [dcK_all] at h2
      rw [dpK_all] at h1
      exact ⟨c, rfl, h2, h1, h6.wr, by omega⟩

end Go.Proofs.YtikaoikladbdpaaGreat.D10
namespace Go.Proofs.YtikaoikladbdpaaGreat.D10
open Go.RowKit

theorem haveN (x m : Int) (h0 : 0 ≤ m) (h1 : m ≤ 1000) : ∃ t : Nat, haveOf x m = (t : Int) ∧ t ≤ 1000 ∧ (t : Int) ≤ m := by
  have := haveOf_in x m h0
  exact ⟨(haveOf x m).toNat, by omega, by omega, by omega⟩

def DqPost (w : World) (most there : Int) (ks : Nat → Int) (n : Nat) (e : Ending) (w' : World) : Prop :=
  ∃ gw gc, e = .returned (.tuple #[.slice (some ⟨gw, 0, none⟩) n n, .slice (some ⟨gc, 0, none⟩) n n]) ∧ Rw w' gw .i64 3 (dpL most (olds there) ks n) ∧ Rw w' gc .u8 5 (dcL most (olds there) ks n) ∧ w.heap.size ≤ gw ∧ w.heap.size ≤ gc ∧ gw ≠ gc ∧ Below w.heap.size w w'

set_option maxRecDepth 100000 in
set_option maxHeartbeats 3200000 in
theorem pairsAny (w : World) (x most : Int) (ao : Option Addr) (n cap : Nat) (os : List (Int × Int)) (ho : OpsAt w ao n os) (hn : n ≤ 1000000) :
    Calls Tryz.prog 185 #[.int .i64 x, .int .i64 most, .slice ao n cap] w (DqPost w (mostOf most) (haveOf x (mostOf most)) (kindsOf os) n) := by
  have HO := Lib.hid ho
  clear ho
  go_enter Tryz.func185, Tryz.ntmps185
  go_upto_region 1 with (fail)
  go_cut [1] from 10 to 12 (fun s wx => s = .int .i64 (mostOf most) ∧ w = wx)
  case first =>
    rcases mostOf_cases most with ⟨h, he⟩ | ⟨h, he⟩ | ⟨h, he⟩ | ⟨h, he⟩ | ⟨h, he⟩
    · have HE := Lib.hid he
      have h2 : ¬ 0 < most := by omega
      have h3 : ¬ 0 ≤ most := by omega
      clear he
      go_wp2_with fail
      go_meet
      exact ⟨by rw [HE.out], rfl⟩
    · subst h
      have HE := Lib.hid he
      clear he
      go_wp2_with fail
      go_meet
      exact ⟨by rw [HE.out], rfl⟩
    · obtain ⟨h1, h2⟩ := h
      have HE := Lib.hid he
      clear he
      have h3 : ¬ most < 0 := by omega
      have h4 : ¬ 1000 < most := by omega
      go_wp2_with fail
      go_meet
      exact ⟨by rw [HE.out], rfl⟩
    · subst h
      have HE := Lib.hid he
      clear he
      go_wp2_with fail
      go_meet
      exact ⟨by rw [HE.out], rfl⟩
    · have HE := Lib.hid he
      clear he
      have h2 : ¬ most < 0 := by omega
      have h3 : ¬ most < 1000 := by omega
      go_wp2_with fail
      go_meet
      exact ⟨by rw [HE.out], rfl⟩
  case' rest => skip
  obtain ⟨rfl, rfl⟩ := hcut
  have hm := mostOf_in most
  generalize mostOf most = m at *
  obtain ⟨m0, m1⟩ := hm
  go_upto_region 2 with (fail)
  go_cut [8] from 13 to 20 (fun s wx => ∃ (t : Nat) (e : Ending), haveOf x m = (t : Int) ∧ e = .returned s ∧ Hid (NewRow w t m n e wx))
  case first =>
    obtain ⟨t, HT0, ht, htm⟩ := haveN x m m0 m1
    have HT := Lib.hid HT0
    have C := rowOfAny w t m n ht hn
    rw [← HT0] at C
    clear HT0 ht htm
    rcases haveOf_cases x m m0 with ⟨h, he⟩ | ⟨h, he⟩ | ⟨h, he⟩ | ⟨h, he⟩ | ⟨h, he⟩ | ⟨h, he⟩ | ⟨h, he⟩ | ⟨h, he⟩
    · obtain ⟨h1, h2⟩ := h
      subst h2
      rw [he] at C
      clear he
      have h3 : ¬ 0 < x := by omega
      have h4 : ¬ 0 ≤ x := by omega
      clear h1
      go_wp2_with fail
      refine C.mono ?_
      clear C
      rintro e w2 ⟨p, g, h, rfl, r⟩
      have HN := Lib.hid r
      clear r
      go_wp2
      go_meet
      exact ⟨t, _, HT.out, rfl, Lib.hid ⟨p, g, h, rfl, HN.out⟩⟩
    · obtain ⟨h1, h2⟩ := h
      rw [he] at C
      clear he
      have h3 : ¬ 0 < x := by omega
      have h4 : ¬ 0 ≤ x := by omega
      have h5 : ¬ m < 0 := by omega
      go_wp2_with fail
      refine C.mono ?_
      clear C
      rintro e w2 ⟨p, g, h, rfl, r⟩
      have HN := Lib.hid r
      clear r
      go_wp2
      go_meet
      exact ⟨t, _, HT.out, rfl, Lib.hid ⟨p, g, h, rfl, HN.out⟩⟩
    · obtain ⟨h1, h2⟩ := h
      subst h1 h2
      rw [he] at C
      clear he
      go_wp2_with fail
      refine C.mono ?_
      clear C
      rintro e w2 ⟨p, g, h, rfl, r⟩
      have HN := Lib.hid r
      clear r
      go_wp2
      go_meet
      exact ⟨t, _, HT.out, rfl, Lib.hid ⟨p, g, h, rfl, HN.out⟩⟩
    · obtain ⟨h1, h2⟩ := h
      subst h1
      rw [he] at C
      clear he
      have h5 : ¬ m < 0 := by omega
      go_wp2_with fail
      refine C.mono ?_
      clear C
      rintro e w2 ⟨p, g, h, rfl, r⟩
      have HN := Lib.hid r
      clear r
      go_wp2
      go_meet
      exact ⟨t, _, HT.out, rfl, Lib.hid ⟨p, g, h, rfl, HN.out⟩⟩
    · obtain ⟨h1, h2⟩ := h
      rw [he] at C
      clear he
      have h3 : ¬ x < 0 := by omega
      have h4 : ¬ m < x := by omega
      go_wp2_with fail
      refine C.mono ?_
      clear C
      rintro e w2 ⟨p, g, h, rfl, r⟩
      have HN := Lib.hid r
      clear r
      go_wp2
      go_meet
      exact ⟨t, _, HT.out, rfl, Lib.hid ⟨p, g, h, rfl, HN.out⟩⟩
    · obtain ⟨h1, h2⟩ := h
      subst h2
      rw [he] at C
      clear he
      have h3 : ¬ x < 0 := by omega
      go_wp2_with fail
      refine C.mono ?_
      clear C
      rintro e w2 ⟨p, g, h, rfl, r⟩
      have HN := Lib.hid r
      clear r
      go_wp2
      go_meet
      exact ⟨t, _, HT.out, rfl, Lib.hid ⟨p, g, h, rfl, HN.out⟩⟩
    · obtain ⟨h1, h2⟩ := h
      rw [he] at C
      clear he
      have h3 : ¬ x < 0 := by omega
      have h4 : ¬ x < m := by omega
      have h5 : 0 < x := by omega
      go_wp2_with fail
      refine C.mono ?_
      clear C
      rintro e w2 ⟨p, g, h, rfl, r⟩
      have HN := Lib.hid r
      clear r
      go_wp2
      go_meet
      exact ⟨t, _, HT.out, rfl, Lib.hid ⟨p, g, h, rfl, HN.out⟩⟩
    · obtain ⟨h1, h2⟩ := h
      subst h1
      rw [he] at C
      clear he
      have h3 : ¬ x < 0 := by omega
      have h4 : ¬ x < 0 := by omega
      go_wp2_with fail
      refine C.mono ?_
      clear C
      rintro e w2 ⟨p, g, h, rfl, r⟩
      have HN := Lib.hid r
      clear r
      go_wp2
      go_meet
      exact ⟨t, _, HT.out, rfl, Lib.hid ⟨p, g, h, rfl, HN.out⟩⟩
  case' rest => skip
  obtain ⟨t, e, HT, he, HN⟩ := hcut
  obtain ⟨p, g, h, he2, hs, hp, hg, hh, hb⟩ := HN.out
  obtain rfl := he.symm.trans he2 |> fun q => by injection q
  have HT0 := Lib.hid (show olds (haveOf x m) = List.replicate t (-1) by rw [HT]; simp [olds])
  have ht : t ≤ 1000 := by have := haveOf_in x m m0; omega
  have hpl : ∀ y, Own3 p g h y → y < wc.heap.size := by
    obtain ⟨⟨S, A, _, r1, r2⟩, r3, _⟩ := hs
    rintro y (rfl | rfl | rfl)
    · exact r1.lt
    · exact r2.lt
    · exact r3.lt
  have hlow : ∀ y, Own3 p g h y → w.heap.size ≤ y := by
    rintro y (rfl | rfl | rfl) <;> assumption
  have C := throughAny hs hpl ao cap os (HO.out.keep hb) (fun hp0 a ha hin => by
    obtain ⟨b, off, e, hbl, _⟩ := HO.out.2 hp0
    rw [e] at ha
    injection ha with ha
    subst ha
    have hbb : w.heap.size ≤ b := hlow _ hin
    omega) hn ht
  have HB := Lib.hid hb
  have HW := Lib.hid hlow
  have HP := Lib.hid hpl
  have HQ := Lib.hid (show w.heap.size ≤ h from hh)
  have hsz := hb.size
  clear HT HN he he2 hs hp hg hh hb hpl hlow m0 m1 HO
  go_wp2_with fail
  refine C.mono ?_
  clear C
  rintro e w5 ⟨c, rfl, hc, hs, hw, hcl⟩
  have HB5 := Lib.hid (HB.out.trans (hw.below hsz HW.out))
  have HC := Lib.hid hc
  have HS := Lib.hid hs
  have HCL := Lib.hid (show w.heap.size ≤ c ∧ h ≠ c from ⟨by omega, fun e => by have := HP.out h (.inr (.inr rfl)); omega⟩)
  obtain ⟨⟨S, A, _, r1, _⟩, _⟩ := hs
  have c6 := r1.c6
  have hl := r1.lt
  clear hc hw hcl r1 HB HW HP
  go_wp2
  go_ret2
  rw [← HT0.out] at HC HS
  exact ⟨h, c, rfl, HS.out.wit, HC.out, HQ.out, HCL.out.1, HCL.out.2, HB5.out⟩

end Go.Proofs.YtikaoikladbdpaaGreat.D10
