/-
  The walk of CellsCopy: for all numbers it answers true and leaves all old memory as it was.
-/
import Derived.Test.YteebmcldmiemnaaSwapsWalk
namespace Go.Proofs.Yteebmcldmiemnaa
open Go.RowKit

/-- What one memory's call writes is none of another's whose blocks all stand behind. -/
theorem Mem.apart {w w' : World} {N q p : Nat} {vc r : Value} {size : Int} {zs : List Int} {st : Int} (m : Mem w N q vc size zs st) (wr : Wrote p r w w') (hp : p < N) (hr : ∀ g, r.ownBlock = some g → g < N) : Mem w' N q vc size zs st :=
  m.keep (wr.block q m.lt (by have := m.low; omega) (fun e => by have := hr q e; have := m.low; omega))
    (fun g hg => wr.block g (m.rowLt hg).2 (by have := (m.rowLt hg).1; omega) (fun e => by have := hr g e; have := (m.rowLt hg).1; omega))

set_option maxRecDepth 100000 in
set_option maxHeartbeats 8000000 in
theorem copyWalk (n v u : Int) (n0 : 0 ≤ n) (n1 : n ≤ 255) (_ : -9223372036854775808 ≤ v) (_ : v ≤ 9223372036854775807) (_ : -9223372036854775808 ≤ u) (_ : u ≤ 9223372036854775807) (w : World) :
    Calls Try.prog 6 #[.int .u8 n, .int .i64 v, .int .i64 u] w fun e w' => e = .returned (.bool true) ∧ Below w.heap.size w w' := by
  have hk := (show 1 ≤ 1 + n % 20 ∧ 1 + n % 20 ≤ 20 from by omega)
  go_enter Try.func6, Try.ntmps6
  go_wp2_with fail
  generalize 1 + n % 20 = k at *
  obtain ⟨k0, k1⟩ := hk
  refine (new1 k w (by omega) (by omega)).mono ?_
  rintro e w1 ⟨rfl, m1, b1⟩
  have C := alloc1 m1 k (by omega) (by simp) (by omega) (by omega)
  have HB1 := Lib.hid (b1)
  clear b1 m1
  go_wp2_with fail
  refine C.mono ?_
  clear C
  rintro e w2 ⟨rfl, m2, b2⟩
  generalize hL : [] ++ List.replicate k.toNat (0 : Int) = L at m2
  have HL := Lib.hid (show (L.length : Int) = k by subst hL; simp; omega)
  clear hL
  have HB2 := Lib.hid (HB1.out.trans b2)
  clear b2
  have xl : 0 < L.length := by have := HL.out; omega
  go_wp2_with fail
  refine (store1 m2 0 v (by omega) (by omega) (by omega) (by omega)).mono ?_
  clear m2
  rintro e w3 ⟨rfl, m3, b3⟩
  have HB3 := Lib.hid (HB2.out.trans b3)
  clear b3
  obtain ⟨r, m3⟩ := m3
  have hget := getD_set (L := L) (j := 0) v xl
  have hlen : (L.set (0 : Int).toNat v).length = L.length := by simp
  generalize hL1 : L.set (0 : Int).toNat v = L1 at *
  rw [show L.set 0 v = L1 from hL1] at hget
  clear hL1
  have l1 : 0 < L1.length := by omega
  have HG := Lib.hid hget
  have HLN := Lib.hid hlen
  clear hget hlen
  have HM3 := Lib.hid m3
  have C := copyAny m3
  clear m3
  go_wp2_with fail
  refine C.mono ?_
  clear C
  rintro e w4 ⟨q, rfl, c4, b4⟩
  have S1 := stepsAny c4
  have S2 := stepsAny (HM3.out.fresh b4)
  have C := storeIn c4 0 u (by omega) (by omega) (by omega) (by omega)
  have HC4 := Lib.hid c4
  have HB4 := Lib.hid b4
  clear c4 b4
  go_wp2_with fail
  refine S1.mono ?_
  rintro e w' ⟨rfl, rfl⟩
  go_wp2_with fail
  refine S2.mono ?_
  rintro e w' ⟨rfl, rfl⟩
  clear S1 S2
  go_wp2_with fail
  refine C.mono ?_
  clear C
  rintro e w5 ⟨rfl, d5⟩
  obtain ⟨⟨vc, c5⟩, b5⟩ := d5.one HC4.out
  clear d5
  have HB5 := Lib.hid (HB4.out.trans b5)
  have HC5 := Lib.hid c5
  clear b5 c5 HC4 HB4
  have C := cellsAny (HM3.out.fresh HB5.out)
  go_wp2_with fail
  refine C.mono ?_
  clear C
  rintro e w6 ⟨rfl, ho, b6⟩
  have e0 := ho.cellAt 0 (by omega)
  have f0 := ho.frozenAt 0
  rw [show (L1.map (Value.int .i64))[0]? = some (.int .i64 (L1.getD 0 0)) by simp [List.getD, l1]] at e0
  rw [HG.out] at e0
  have HB6 := Lib.hid (fun x => b6.setCell (p := ⟨w5.heap.size, 0, none⟩) (Nat.le_refl _) x)
  clear ho b6
  go_wp2_with fail
  have HB7 := Lib.hid (fun x => HB5.out.trans ((HB6.out x).mono HB5.out.size))
  have C := fun x => loadIn (HM3.out.fresh (HB7.out x)) 0 (by omega) (by omega) (by omega) (by omega)
  rw [show (0 : Int).toNat = 0 from rfl, HG.out] at C
  refine (C _).mono ?_
  clear C
  rintro e w8 ⟨rfl, d8⟩
  have b8 := (d8.one (HM3.out.fresh (HB7.out _))).2
  obtain ⟨r8, _, wr8, _⟩ := d8
  have c8 := (HC5.out.fresh (HB6.out _)).apart wr8 HM3.out.lt (fun g hg => (HM3.out.rowLt hg).2)
  have HB8 := Lib.hid ((HB3.out.trans ((HB7.out _).mono HB3.out.size)).trans b8)
  clear wr8 b8 HB7 HB6
  have C := loadIn c8 0 (by omega) (by simp; omega) (by omega) (by omega)
  rw [show (0 : Int).toNat = 0 from rfl, getD_set u l1] at C
  have HC8 := Lib.hid c8
  clear c8
  go_wp2_with fail
  refine C.mono ?_
  clear C
  rintro e w9 ⟨rfl, d9⟩
  have b9 := (d9.one HC8.out).2
  have HB9 := Lib.hid (HB8.out.trans (b9.mono HB3.out.size))
  clear d9 b9 HC8 HC5 HB5 HM3
  go_wp2_with fail
  refine (loadNil w9 0).mono ?_
  rintro e w10 ⟨rfl, b10⟩
  have HB10 := Lib.hid (HB9.out.trans (b10.mono HB9.out.size))
  clear b10
  go_wp2_with fail
  refine (allocNilOk w10).mono ?_
  rintro e w11 ⟨rfl, b11⟩
  have HB11 := Lib.hid (HB10.out.trans (b11.mono HB10.out.size))
  clear b11
  go_wp2_with fail
  refine (allocNilFull w11 1 (by omega)).mono ?_
  rintro e w12 ⟨rfl, b12⟩
  have HB12 := Lib.hid (HB11.out.trans (b12.mono HB11.out.size))
  clear b12
  go_wp2_with fail
  refine (known w12).mono ?_
  rintro e w13 ⟨rfl, b13⟩
  have HB13 := Lib.hid (HB12.out.trans (b13.mono HB12.out.size))
  clear b13
  go_wp2_with fail
  refine (topNil w13).mono ?_
  rintro e w' ⟨rfl, rfl⟩
  go_wp2_with fail
  refine (stepsNil w13).mono ?_
  rintro e w' ⟨rfl, rfl⟩
  go_wp2_with fail
  refine (copyNil w13).mono ?_
  rintro e w14 ⟨rfl, m14, b14⟩
  have HB14 := Lib.hid (HB13.out.trans (b14.mono HB13.out.size))
  have T := topAny m14
  clear b14 m14
  go_wp2_with fail
  refine T.mono ?_
  rintro e w' ⟨rfl, rfl⟩
  clear T
  go_wp2
  go_ret
  exact ⟨by simp, HB14.out⟩

end Go.Proofs.Yteebmcldmiemnaa
