/-
  The chapter's example (reaperlaw16.known) is told. Conditions: none.
-/
import Derived.Test.YtikaoikladbdpaaGreatG2516
import Derived.Test.YtikaoikladbdpaaGreatMemoN16m
namespace Go.Proofs.YtikaoikladbdpaaGreat.M2
open Go.RowKit

theorem lit_i64 (w : World) (l : List Int) : Reads .i64 (w.alloc (.cells (l.map (Value.int .i64)).toArray 2)) (some ⟨w.heap.size, 0, none⟩) l.length l := by
  refine ⟨rfl, fun _ => ⟨w.heap.size, 0, rfl, by simp, fun j hj => ?_⟩⟩
  have hn := heap_alloc_new w (.cells (l.map (Value.int .i64)).toArray 2)
  have e : ((l.map (Value.int .i64)).toArray)[j]? = some (.int .i64 (l.getD j 0)) := by simp [List.getD, hj]
  rw [Nat.zero_add]
  simp only [World.cell?, hn]
  simpa using e

theorem kn33 : cst 1 { t0 with pc := 33 } [1, 0, 4] [] = ⟨{ t0 with lk := 0, pc := 40 }, [1, 0, 4], 1, []⟩ := by rfl
theorem kn20 : cst 1 { t0 with pc := 20 } [1, 0, 4] [] = ⟨{ t0 with lk := 4, pc := 21 }, [1, 0, 4], 1, []⟩ := by rfl
theorem Did.under {a b : World} {B C p : Nat} {v : Value} {size : Int} {zs zs' : List Int} {st st' : Int} (m : Mem a B p v size zs st) (d : Did B p v size zs' st' a b) (hC : C ≤ B) (hs : C ≤ a.heap.size) : Below C a b := by
  obtain ⟨v', m', wr, lt⟩ := d
  exact wr.below hs (Nat.le_trans hC m.low) (fun g hg => Nat.le_trans hC (m.rowLt hg).1)
set_option maxRecDepth 100000 in
set_option maxHeartbeats 16000000 in
theorem known (w : World) : Calls Tryz.prog 9 #[] w fun e w' => e = .returned (.bool true) ∧ Below w.heap.size w w' := by
  have HV33 := Lib.hid (show thV { t0 with pc := 33 } (.slice none 0 0) = .agg #[.int .i64 0, .int .i64 33, .int .i64 0, .int .i64 0, .int .i64 0, .int .i64 0, .int .i64 0, .int .i64 0, .int .i64 0, .int .i64 0, .int .i64 0, .int .i64 0, .slice none 0 0] from rfl)
  have HV20 := Lib.hid (show thV { t0 with pc := 20 } (.slice none 0 0) = .agg #[.int .i64 0, .int .i64 20, .int .i64 0, .int .i64 0, .int .i64 0, .int .i64 0, .int .i64 0, .int .i64 0, .int .i64 0, .int .i64 0, .int .i64 0, .int .i64 0, .slice none 0 0] from rfl)
  go_enter Tryz.func9, Tryz.ntmps9
  go_wp2_with fail
  have R0 := lit_i64 w [1, 0, 4]
  have hb0 : Below w.heap.size w (w.alloc (.cells (([1, 0, 4] : List Int).map (Value.int .i64)).toArray 2)) := (Below.refl _ _).alloc (Nat.le_refl _) _
  change Calls _ _ _ (w.alloc (.cells (([1, 0, 4] : List Int).map (Value.int .i64)).toArray 2)) _
  generalize w.alloc (.cells (([1, 0, 4] : List Int).map (Value.int .i64)).toArray 2) = W0 at *
  have HB0 := Lib.hid hb0
  clear hb0
  refine (memoryTwo W0 _ 3 3 [1, 0, 4] R0 (by omega)).mono ?_
  clear R0
  rintro e w1 ⟨p, u, v, rfl, m1, o1, n1, b1⟩
  obtain ⟨au, cu, rfl⟩ := _root_.Go.Proofs.YtikaoikladbdpaaGreat.ownShape o1
  have HM := Lib.hid (show Mem w1 W0.heap.size p v 3 [1, 0, 4] 4 from m1)
  have HB1 := Lib.hid (HB0.out.trans (b1.mono HB0.out.size))
  have HWS := Lib.hid (HB0.out.size)
  clear m1 o1 n1 b1 HB0
  go_wp2_with fail
  have HW0 := Lib.hid (show w.heap.size ≤ W0.heap.size from HWS.out)
  have hbx : Below w.heap.size w (w1.alloc (.cells #[.int .i64 3, .slice au 3 cu, .int .i64 4] 41)) := HB1.out.alloc HB1.out.size _
  have hbx2 : Below (w1).heap.size (w1) (w1.alloc (.cells #[.int .i64 3, .slice au 3 cu, .int .i64 4] 41)) := (Below.refl _ _).alloc (Nat.le_refl _) _
  have MX := HM.out.fresh hbx2
  generalize w1.alloc (.cells #[.int .i64 3, .slice au 3 cu, .int .i64 4] 41) = X at *
  have HMX := Lib.hid MX
  have HBX := Lib.hid hbx
  clear MX hbx hbx2
  refine (obNew 1 4 false X (.inl rfl)).mono ?_
  rintro e y ⟨o, rfl, ob, by_⟩
  have my := HMX.out.fresh by_
  have C := stepC (o := o) y my 1 { t0 with pc := 33 } none 0 0 [] (Its.zero _ _) (fun _ => rfl) (by simp) (by decide) (by omega) (by omega)
  rw [kn33] at C
  rw [HV33.out] at C
  have HC := Lib.hid C
  have HMY := Lib.hid my
  have HBY := Lib.hid (HBX.out.trans (by_.mono HBX.out.size))
  clear C by_ my ob HBX HMX
  go_wp2_with fail
  with_reducible refine HC.out.mono ?_
  clear HC
  rintro e w2 ⟨b2, rfl, r2, d2⟩
  obtain ⟨a2, c2, hb2, _⟩ := r2.shape
  rw [show ([] : List It3).length = 0 from rfl] at hb2
  subst hb2
  rw [show thV ({ t0 with lk := 0, pc := 40 } : Th) (.slice a2 0 c2) = .agg #[.int .i64 0, .int .i64 40, .int .i64 0, .int .i64 0, .int .i64 0, .int .i64 0, .int .i64 0, .int .i64 0, .int .i64 0, .int .i64 0, .int .i64 0, .int .i64 0, .slice a2 0 c2] from rfl]
  have HB2 := Lib.hid (HBY.out.trans (Did.under HMY.out d2 (HW0.out) HBY.out.size))
  obtain ⟨v1, m1, wr1, _⟩ := d2
  have HM2 := Lib.hid (show Mem w2 W0.heap.size p v1 3 [1, 0, 4] 5 from m1)
  have HTK := Lib.hid (TX.new w2 { t0 with lk := 0, pc := 40 } (.slice a2 0 c2))
  clear m1 wr1 r2 HMY HBY HM
  go_wp2_with fail
  have hbx : Below w.heap.size w (w2.alloc (.cells #[.int .i64 0, .int .i64 40, .int .i64 0, .int .i64 0, .int .i64 0, .int .i64 0, .int .i64 0, .int .i64 0, .int .i64 0, .int .i64 0, .int .i64 0, .int .i64 0, .slice a2 0 c2] 25)) := HB2.out.alloc HB2.out.size _
  have hbx2 : Below (w2).heap.size (w2) (w2.alloc (.cells #[.int .i64 0, .int .i64 40, .int .i64 0, .int .i64 0, .int .i64 0, .int .i64 0, .int .i64 0, .int .i64 0, .int .i64 0, .int .i64 0, .int .i64 0, .int .i64 0, .slice a2 0 c2] 25)) := (Below.refl _ _).alloc (Nat.le_refl _) _
  have MX := HM2.out.fresh hbx2
  have TK : TX (w2.alloc (.cells #[.int .i64 0, .int .i64 40, .int .i64 0, .int .i64 0, .int .i64 0, .int .i64 0, .int .i64 0, .int .i64 0, .int .i64 0, .int .i64 0, .int .i64 0, .int .i64 0, .slice a2 0 c2] 25)) w2.heap.size { t0 with lk := 0, pc := 40 } (.slice a2 0 c2) := HTK.out
  generalize w2.alloc (.cells #[.int .i64 0, .int .i64 40, .int .i64 0, .int .i64 0, .int .i64 0, .int .i64 0, .int .i64 0, .int .i64 0, .int .i64 0, .int .i64 0, .int .i64 0, .int .i64 0, .slice a2 0 c2] 25) = X at *
  have HMX := Lib.hid MX
  have HBX := Lib.hid hbx
  clear MX hbx hbx2
  refine (obNew 1 4 false X (.inl rfl)).mono ?_
  rintro e y ⟨o, rfl, ob, by_⟩
  have my := HMX.out.fresh by_
  have C := stepC (o := o) y my 1 { t0 with pc := 20 } none 0 0 [] (Its.zero _ _) (fun _ => rfl) (by simp) (by decide) (by omega) (by omega)
  rw [kn20] at C
  rw [HV20.out] at C
  have HC := Lib.hid C
  have HMY := Lib.hid my
  have HBY := Lib.hid (HBX.out.trans (by_.mono HBX.out.size))
  have HTY := Lib.hid (TK.keep by_)
  clear TK HTK
  clear C by_ my ob HBX HMX
  go_wp2_with fail
  with_reducible refine HC.out.mono ?_
  clear HC
  rintro e w3 ⟨b3, rfl, r3, d3⟩
  obtain ⟨a3, c3, hb3, _⟩ := r3.shape
  rw [show ([] : List It3).length = 0 from rfl] at hb3
  subst hb3
  rw [show thV ({ t0 with lk := 4, pc := 21 } : Th) (.slice a3 0 c3) = .agg #[.int .i64 0, .int .i64 21, .int .i64 0, .int .i64 0, .int .i64 0, .int .i64 4, .int .i64 0, .int .i64 0, .int .i64 0, .int .i64 0, .int .i64 0, .int .i64 0, .slice a3 0 c3] from rfl]
  have HB3 := Lib.hid (HBY.out.trans (Did.under HMY.out d3 (HW0.out) HBY.out.size))
  have HTY3 := Lib.hid (show TX w3 w2.heap.size { t0 with lk := 0, pc := 40 } (.slice a2 0 c2) from (d3.kept HMY.out) _ _ _ HTY.out (by decide) (by decide))
  clear HTY d3 r3 HMY HBY
  have UX := TX.new w3 { t0 with lk := 4, pc := 21 } (.slice a3 0 c3)
  have hb4 : Below w3.heap.size w3 (w3.alloc (.cells #[.int .i64 0, .int .i64 21, .int .i64 0, .int .i64 0, .int .i64 0, .int .i64 4, .int .i64 0, .int .i64 0, .int .i64 0, .int .i64 0, .int .i64 0, .int .i64 0, .slice a3 0 c3] 25)) := (Below.refl _ _).alloc (Nat.le_refl _) _
  have TY4 := HTY3.out.keep hb4
  have HB4 := Lib.hid (HB3.out.alloc HB3.out.size (.cells #[.int .i64 0, .int .i64 21, .int .i64 0, .int .i64 0, .int .i64 0, .int .i64 4, .int .i64 0, .int .i64 0, .int .i64 0, .int .i64 0, .int .i64 0, .int .i64 0, .slice a3 0 c3] 25))
  have UX : TX (w3.alloc (.cells #[.int .i64 0, .int .i64 21, .int .i64 0, .int .i64 0, .int .i64 0, .int .i64 4, .int .i64 0, .int .i64 0, .int .i64 0, .int .i64 0, .int .i64 0, .int .i64 0, .slice a3 0 c3] 25)) w3.heap.size { t0 with lk := 4, pc := 21 } (.slice a3 0 c3) := UX
  obtain ⟨W4, hW4⟩ : ∃ W, W = w3.alloc (.cells #[.int .i64 0, .int .i64 21, .int .i64 0, .int .i64 0, .int .i64 0, .int .i64 4, .int .i64 0, .int .i64 0, .int .i64 0, .int .i64 0, .int .i64 0, .int .i64 0, .slice a3 0 c3] 25) := ⟨_, rfl⟩
  rw [← hW4] at UX TY4 HB4 hb4
  have S1 := servesO W4 { t0 with lk := 4, pc := 21 } (.slice a3 0 c3) ⟨_, _, _, rfl⟩
  rw [show thV ({ t0 with lk := 4, pc := 21 } : Th) (.slice a3 0 c3) = .agg #[.int .i64 0, .int .i64 21, .int .i64 0, .int .i64 0, .int .i64 0, .int .i64 4, .int .i64 0, .int .i64 0, .int .i64 0, .int .i64 0, .int .i64 0, .int .i64 0, .slice a3 0 c3] from rfl, show decide (20 ≤ ({ t0 with lk := 4, pc := 21 } : Th).pc ∧ ({ t0 with lk := 4, pc := 21 } : Th).pc ≤ 39) = true from rfl] at S1
  have HS1 := Lib.hid S1
  have HU := Lib.hid UX
  have HT := Lib.hid TY4
  have HW4 := Lib.hid hW4
  have e1 : W4.cell? ⟨w2.heap.size, 1, none⟩ = some (.int .i64 40) := TY4.c1
  have d1 : W4.cell? ⟨w3.heap.size, 1, none⟩ = some (.int .i64 21) := UX.c1
  have d5 : W4.cell? ⟨w3.heap.size, 5, none⟩ = some (.int .i64 4) := UX.c5
  have d0 : W4.cell? ⟨w3.heap.size, 0, none⟩ = some (.int .i64 0) := UX.c0
  have d2 : W4.cell? ⟨w3.heap.size, 2, none⟩ = some (.int .i64 0) := UX.c2
  have d3 : W4.cell? ⟨w3.heap.size, 3, none⟩ = some (.int .i64 0) := UX.c3
  have d4 : W4.cell? ⟨w3.heap.size, 4, none⟩ = some (.int .i64 0) := UX.c4
  have d6 : W4.cell? ⟨w3.heap.size, 6, none⟩ = some (.int .i64 0) := UX.c6
  have d7 : W4.cell? ⟨w3.heap.size, 7, none⟩ = some (.int .i64 0) := UX.c7
  have d8 : W4.cell? ⟨w3.heap.size, 8, none⟩ = some (.int .i64 0) := UX.c8
  have d9 : W4.cell? ⟨w3.heap.size, 9, none⟩ = some (.int .i64 0) := UX.c9
  have d10 : W4.cell? ⟨w3.heap.size, 10, none⟩ = some (.int .i64 0) := UX.c10
  have d11 : W4.cell? ⟨w3.heap.size, 11, none⟩ = some (.int .i64 0) := UX.c11
  have d12 := UX.c12
  clear S1 UX TY4 hb4 HTY3 hW4
  go_upto_region 4 with (fail)
  rw [← HW4.out]
  go_wp2_with fail
  with_reducible refine HS1.out.mono ?_
  rintro e w5 ⟨rfl, b5⟩
  have T5 := HT.out.keep b5
  have S2 := servesO w5 { t0 with lk := 0, pc := 40 } (.slice a2 0 c2) ⟨_, _, _, rfl⟩
  rw [show thV ({ t0 with lk := 0, pc := 40 } : Th) (.slice a2 0 c2) = .agg #[.int .i64 0, .int .i64 40, .int .i64 0, .int .i64 0, .int .i64 0, .int .i64 0, .int .i64 0, .int .i64 0, .int .i64 0, .int .i64 0, .int .i64 0, .int .i64 0, .slice a2 0 c2] from rfl, show decide (20 ≤ ({ t0 with lk := 0, pc := 40 } : Th).pc ∧ ({ t0 with lk := 0, pc := 40 } : Th).pc ≤ 39) = false from rfl] at S2
  have HS2 := Lib.hid S2
  have HB5 := Lib.hid (HB4.out.trans (b5.mono HB4.out.size))
  have f0 : w5.cell? ⟨w2.heap.size, 0, none⟩ = some (.int .i64 0) := T5.c0
  have f1 : w5.cell? ⟨w2.heap.size, 1, none⟩ = some (.int .i64 40) := T5.c1
  have f2 : w5.cell? ⟨w2.heap.size, 2, none⟩ = some (.int .i64 0) := T5.c2
  have f3 : w5.cell? ⟨w2.heap.size, 3, none⟩ = some (.int .i64 0) := T5.c3
  have f4 : w5.cell? ⟨w2.heap.size, 4, none⟩ = some (.int .i64 0) := T5.c4
  have f5 : w5.cell? ⟨w2.heap.size, 5, none⟩ = some (.int .i64 0) := T5.c5
  have f6 : w5.cell? ⟨w2.heap.size, 6, none⟩ = some (.int .i64 0) := T5.c6
  have f7 : w5.cell? ⟨w2.heap.size, 7, none⟩ = some (.int .i64 0) := T5.c7
  have f8 : w5.cell? ⟨w2.heap.size, 8, none⟩ = some (.int .i64 0) := T5.c8
  have f9 : w5.cell? ⟨w2.heap.size, 9, none⟩ = some (.int .i64 0) := T5.c9
  have f10 : w5.cell? ⟨w2.heap.size, 10, none⟩ = some (.int .i64 0) := T5.c10
  have f11 : w5.cell? ⟨w2.heap.size, 11, none⟩ = some (.int .i64 0) := T5.c11
  have f12 := T5.c12
  clear S2 T5 b5
  go_wp2_with fail
  with_reducible refine HS2.out.mono ?_
  rintro e w6 ⟨rfl, b6⟩
  have HB6 := Lib.hid (HB5.out.trans (b6.mono HB5.out.size))
  clear b6
  go_wp2
  go_ret
  exact ⟨rfl, HB6.out⟩
end Go.Proofs.YtikaoikladbdpaaGreat.M2
