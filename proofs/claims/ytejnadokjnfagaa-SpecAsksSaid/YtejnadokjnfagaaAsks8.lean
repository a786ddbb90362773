/-
  What reaperlaw08.asks says: true. Conditions: at most two hundred items and as many operations.
-/
import Derived.Test.YtejnadokjnfagaaRefBat8b
namespace Go.Proofs.Ytejnadokjnfagaa
open Go.RowKit Go.Lib

/-- What was told, by both. -/
structure Told8 (n : Nat) (a1 a2 : Option Addr) (Z : List Int) (t1 t2 : Option Addr) (T : List (Int × Int)) (W : World) : Prop where
  h1 : Reads .i32 W a1 Z.length Z
  h2 : Reads .i32 W a2 Z.length Z
  h3 : OpsAt W t1 n T
  h4 : OpsAt W t2 n T
theorem Told8.keep {n : Nat} {a1 a2 t1 t2 : Option Addr} {Z : List Int} {T : List (Int × Int)} {W w : World} (h : Told8 n a1 a2 Z t1 t2 T W) (hb : Below W.heap.size W w) : Told8 n a1 a2 Z t1 t2 T w :=
  ⟨h.h1.keep hb, h.h2.keep hb, h.h3.keep hb, h.h4.keep hb⟩

set_option maxRecDepth 100000 in
set_option maxHeartbeats 16000000 in
theorem asksSays (w : World) (obj most : Int) (ao ap : Option Addr) (nz capz n cap : Nat) (zs : List Int) (os : List (Int × Int)) (hz : Reads .i32 w ao nz zs) (hcz : nz ≤ capz) (ho : OpsAt w ap n os) (hok : ∀ o ∈ os, OpOk o) (hnz : nz ≤ 200) (hn : n ≤ 200) :
    Calls Try.prog 11 #[.int .u8 obj, .int .i64 most, .slice ao nz capz, .slice ap n cap] w fun e w' => e = .returned (.bool true) ∧ Below w.heap.size w w' := by
  have hq := eqSelf
  have HZ := Lib.hid hz
  have HL := Lib.hid hz.1
  have HCZ := Lib.hid hcz
  have HO := Lib.hid ho
  have HN := Lib.hid ho.1
  have HK := Lib.hid hok
  clear hz hcz ho hok
  go_enter Try.func11, Try.ntmps11
  have C := Lib.hid (runAny w obj most ao ap nz capz n cap zs os HZ.out HO.out (by omega) (by omega))
  go_wp2_with fail
  refine C.out.mono ?_
  rintro e w1 ⟨v1, b1, rfl, t1, r1, _, _, bl1⟩
  obtain ⟨a1, c1, rfl, rd1, _⟩ := tailReads t1
  have HB1 := Lib.hid bl1
  have HR1 := Lib.hid (And.intro rd1 (show OpsAt w1 (some ⟨b1, 0, none⟩) n (runT obj (mostOf most) zs os) by have h := r1.ops; rw [runT_length, HN.out] at h; exact h))
  rw [HN.out]
  clear t1 r1 rd1 bl1 C
  have C := Lib.hid (refRun w1 obj most ao ap nz capz n cap zs os (HZ.out.keep HB1.out) HCZ.out (HO.out.keep HB1.out) HK.out (by omega) (by omega))
  go_wp2_with fail
  refine C.out.mono ?_
  rintro e w2 ⟨a2, c2, t2, d2, rfl, rd2, r2, bl2⟩
  rw [HN.out] at r2 ⊢
  have HB2 := Lib.hid (HB1.out.trans (bl2.mono HB1.out.size))
  have HT := Lib.hid (Told8.mk (HR1.out.1.keep bl2) rd2 (HR1.out.2.keep bl2) r2)
  clear rd2 r2 bl2 C HR1 HB1
  have C := Lib.hid (batchAny w2 obj most ao ap nz capz n cap zs os (HZ.out.keep HB2.out) (HO.out.keep HB2.out) (by omega) (by omega))
  go_wp2_with fail
  refine C.out.mono ?_
  rintro e w3 ⟨v3, b3, rfl, t3, r3, _, _, bl3⟩
  obtain ⟨a3, c3, rfl, rd3, _⟩ := tailReads t3
  have HB3 := Lib.hid (HB2.out.trans (bl3.mono HB2.out.size))
  have HT3 := Lib.hid (HT.out.keep bl3)
  have HR3 := Lib.hid (And.intro rd3 (show OpsAt w3 (some ⟨b3, 0, none⟩) n (batT obj (mostOf most) zs os) by have h := r3.ops; rw [batT_length, HN.out] at h; exact h))
  rw [HN.out]
  clear t3 r3 rd3 bl3 C HT HB2
  have C := Lib.hid (refBatch w3 obj most ao ap nz capz n cap zs os (HZ.out.keep HB3.out) HCZ.out (HO.out.keep HB3.out) HK.out (by omega) (by omega))
  go_wp2_with fail
  refine C.out.mono ?_
  rintro e w4 ⟨a4, c4, b4, rfl, rd4, r4, bl4⟩
  rw [HN.out]
  have HB4 := Lib.hid (HB3.out.trans (bl4.mono HB3.out.size))
  have HT4 := Lib.hid (HT3.out.keep bl4)
  have HU4 := Lib.hid (Told8.mk (HR3.out.1.keep bl4) rd4 (HR3.out.2.keep bl4) (show OpsAt w4 (some ⟨b4, 0, none⟩) n (batT obj (mostOf most) zs os) by have h := r4.ops; rw [batT_length, HN.out] at h; exact h))
  have HZl := Lib.hid (And.intro (runZ_le (obj := obj) (mostOf_in most).2 os zs (by rw [HL.out]; omega)) (show (batZ obj (mostOf most) zs os).length ≤ 1000 from runZ_le (obj := obj) (mostOf_in most).2 (ordO obj os) zs (by rw [HL.out]; omega)))
  clear rd4 r4 bl4 C HT3 HR3 HB3
  generalize runZ obj (mostOf most) zs os = Z at *
  generalize runT obj (mostOf most) zs os = T at *
  generalize batZ obj (mostOf most) zs os = Y at *
  generalize batT obj (mostOf most) zs os = P at *
  have HS := Lib.hid (show Below w4.heap.size w4 w4 from Below.refl _ _)
  go_wp2_with fail
  go_loopw [17] (fun i wr => ∃ k : Nat, k ≤ n ∧ k ≤ 5 ∧ i = .int .i64 k ∧ Below w4.heap.size w4 wr) (fun i _ => n - (intOf i).toNat)
  case atStart => exact ⟨0, Nat.zero_le _, by omega, rfl, HS.out⟩
  case round =>
    obtain ⟨k, hk, hk5, rfl, hb⟩ := hrel
    have HB := Lib.hid hb
    have HBw := Lib.hid (HB4.out.trans (hb.mono HB4.out.size))
    clear HS hb
    by_cases hlt : k < n ∧ k < 5
    · obtain ⟨hlt, hlt5⟩ := hlt
      obtain ⟨b, off, rfl, bl, hc⟩ := HO.out.2 (by omega)
      have y0 := (HBw.out.cell (p := ⟨b, off + k * 2, none⟩) bl).trans (hc k hlt).1
      have y1 := (HBw.out.cell (p := ⟨b, off + k * 2 + 1, none⟩) bl).trans (hc k hlt).2
      have hop := ok_at HK.out (i := k) (by rw [HN.out]; exact hlt)
      have i1 : (k : Int) < n := by omega
      have i2 : (k : Int) < 5 := by omega
      have hblw : b < wr.heap.size := Nat.lt_of_lt_of_le bl HBw.out.size
      generalize (os.getD k (0, 0)) = o at *
      obtain ⟨kd, kv⟩ := o
      have C := Lib.hid (applyAny wr obj most ao nz capz zs kd kv (HZ.out.keep HBw.out) (by omega))
      have HOP := Lib.hid hop.1.1
      have HBL := Lib.hid hblw
      clear hc hop bl hblw
      go_wp2_with fail
      refine C.out.mono ?_
      rintro e w5 ⟨v5, rfl, t5, _, bl5⟩
      obtain ⟨a5, c5, rfl, rd5, _⟩ := tailReads t5
      have HB5 := Lib.hid (HB.out.trans (bl5.mono HB.out.size))
      have y0 := (bl5.cell (p := ⟨b, off + k * 2, none⟩) HBL.out).trans y0
      have y1 := (bl5.cell (p := ⟨b, off + k * 2 + 1, none⟩) HBL.out).trans y1
      have HR5 := Lib.hid rd5
      have hbl5 : b < w5.heap.size := Nat.lt_of_lt_of_le HBL.out bl5.size
      have HZl1 := Lib.hid (objL_le (obj := obj) (most := mostOf most) (zs := zs) (by rw [HL.out]; omega) (mostOf_in most).2 kd kv)
      clear t5 rd5 bl5 C HB HBw HBL
      obtain ⟨rc, hrc⟩ : ∃ x, objC obj (mostOf most) zs kd = x := ⟨_, rfl⟩
      obtain ⟨rv, hrv⟩ : ∃ x, objV obj zs kd = x := ⟨_, rfl⟩
      obtain ⟨Z1, hZ1⟩ : ∃ x, objL obj (mostOf most) zs kd kv = x := ⟨_, rfl⟩
      rw [hrc, hrv, hZ1]
      rw [hZ1] at HR5 HZl1
      have HQ := Lib.hid (And.intro hrc (And.intro hrv hZ1))
      clear hrc hrv hZ1
      go_upto_region 9 with (fail)
      have hbA : Below w5.heap.size w5 (w5.alloc (.cells #[.int .u8 rc, .int .i32 rv] 32)) := (Below.refl _ _).alloc (Nat.le_refl _) _
      have HXA := Lib.hid (RBox.new w5 rc rv)
      have y0 := (hbA.cell (p := ⟨b, off + k * 2, none⟩) hbl5).trans y0
      have y1 := (hbA.cell (p := ⟨b, off + k * 2 + 1, none⟩) hbl5).trans y1
      have HR6 := Lib.hid (HR5.out.keep hbA)
      have HB6 := Lib.hid (HB5.out.trans (hbA.mono HB5.out.size))
      clear hbA HR5 HB5 hbl5
      generalize w5.alloc (.cells #[.int .u8 rc, .int .i32 rv] 32) = w6 at *
      generalize w5.heap.size = g5 at *
      have HBw6 := Lib.hid (HB4.out.trans (HB6.out.mono HB4.out.size))
      have C := Lib.hid (refApply obj most kd kv (HZ.out.keep HBw6.out) HCZ.out (by omega) HOP.out)
      go_wp2_with fail
      refine C.out.mono ?_
      rintro e w7 ⟨a7, c7, rfl, rd7, _, _, bl7⟩
      have HB7 := Lib.hid (HB6.out.trans (bl7.mono HB6.out.size))
      have HXB := Lib.hid (HXA.out.keep bl7)
      have HR7 := Lib.hid (And.intro (HR6.out.keep bl7) (show Reads .i32 w7 a7 Z1.length Z1 by have h := rd7; rw [HQ.out.2.2] at h; exact h))
      rw [HQ.out.1, HQ.out.2.1, HQ.out.2.2]
      clear rd7 bl7 C HB6 HBw6 HXA HR6 y0 y1
      go_upto_region 10 with (fail)
      have hbC : Below w7.heap.size w7 (w7.alloc (.cells #[.int .u8 rc, .int .i32 rv] 32)) := (Below.refl _ _).alloc (Nat.le_refl _) _
      have HXC := Lib.hid (RBox.new w7 rc rv)
      have HXD := Lib.hid (HXB.out.keep hbC)
      have HR8 := Lib.hid (And.intro (HR7.out.1.keep hbC) (HR7.out.2.keep hbC))
      have HB8 := Lib.hid (HB7.out.trans (hbC.mono HB7.out.size))
      clear hbC HXB HR7 HB7 HQ
      generalize w7.alloc (.cells #[.int .u8 rc, .int .i32 rv] 32) = w8 at *
      generalize w7.heap.size = g7 at *
      have x0 := HXC.out.c0
      have x1 := HXC.out.c1
      have x2 := HXD.out.c0
      have x3 := HXD.out.c1
      have C := Lib.hid (sameEq w8 a5 a7 Z1.length c5 c7 Z1 HR8.out.1 HR8.out.2 HZl1.out)
      go_wp2_with fail
      refine C.out.mono ?_
      rintro e w9 ⟨rfl, bl9⟩
      have HB9 := Lib.hid (HB8.out.trans (bl9.mono HB8.out.size))
      clear bl9 C HB8 x0 x1 x2 x3 HXC HXD HR8
      go_wp2
      go_roundw
      case rel => exact ⟨k + 1, by omega, by omega, by go_num, HB9.out⟩
      case measure => simp [intOf]; omega
    · by_cases hkn : k < n
      · obtain rfl : k = 5 := by omega
        have HX := Lib.hid (And.intro (HT4.out.keep HB.out) (HU4.out.keep HB.out))
        have HBw := Lib.hid (HB4.out.trans (HB.out.mono HB4.out.size))
        have HNL := Lib.hid (show (ordL obj os).length = n by rw [ordL_length, HN.out])
        clear HT4 HU4 HB HB4
        have C := Lib.hid (sameEq wr a1 a2 Z.length c1 c2 Z HX.out.1.h1 HX.out.1.h2 HZl.out.1)
        go_wp2_with fail
        refine C.out.mono ?_
        rintro e w10 ⟨rfl, bl⟩
        have HB10 := Lib.hid (HBw.out.trans (bl.mono HBw.out.size))
        have HX10 := Lib.hid (And.intro (HX.out.1.keep bl) (HX.out.2.keep bl))
        clear bl C HX HBw
        have C := Lib.hid (toldEq w10 (some ⟨b1, 0, none⟩) t2 n n d2 T HX10.out.1.h3 HX10.out.1.h4 (by omega))
        go_wp2_with fail
        refine C.out.mono ?_
        rintro e w11 ⟨rfl, bl⟩
        have HB11 := Lib.hid (HB10.out.trans (bl.mono HB10.out.size))
        have HX11 := Lib.hid (HX10.out.2.keep bl)
        clear bl C HX10 HB10
        have C := Lib.hid (sameEq w11 a3 a4 Y.length c3 c4 Y HX11.out.h1 HX11.out.h2 HZl.out.2)
        go_wp2_with fail
        refine C.out.mono ?_
        rintro e w12 ⟨rfl, bl⟩
        have HB12 := Lib.hid (HB11.out.trans (bl.mono HB11.out.size))
        have HX12 := Lib.hid (HX11.out.keep bl)
        clear bl C HX11 HB11
        have C := Lib.hid (toldEq w12 (some ⟨b3, 0, none⟩) (some ⟨b4, 0, none⟩) n n n P HX12.out.h3 HX12.out.h4 (by omega))
        go_wp2_with fail
        refine C.out.mono ?_
        rintro e w13 ⟨rfl, bl⟩
        have HB13 := Lib.hid (HB12.out.trans (bl.mono HB12.out.size))
        clear bl C HX12 HB12
        have C := Lib.hid (orderAny w13 obj ap n cap os (HO.out.keep HB13.out) (by omega))
        go_wp2_with fail
        refine C.out.mono ?_
        rintro e w14 ⟨al, cl, rfl, r14, _, _, bl⟩
        rw [HNL.out] at r14 ⊢
        have HR14 := Lib.hid r14
        have HB14 := Lib.hid (HB13.out.trans (bl.mono HB13.out.size))
        clear bl r14 C HB13
        have C := Lib.hid (refOrder w14 obj ap n cap os (HO.out.keep HB14.out) (by omega))
        go_wp2_with fail
        refine C.out.mono ?_
        rintro e w15 ⟨al2, cl2, rfl, r15, _, bl⟩
        have HR15 := Lib.hid (And.intro (HR14.out.keep bl) r15)
        have HB15 := Lib.hid (HB14.out.trans (bl.mono HB14.out.size))
        clear bl r15 C HB14 HR14
        have C := Lib.hid (intsEq w15 al al2 n cl cl2 (ordL obj os) HR15.out.1 HR15.out.2 (by omega))
        go_wp2_with fail
        refine C.out.mono ?_
        rintro e w16 ⟨rfl, bl⟩
        have HB16 := Lib.hid (HB15.out.trans (bl.mono HB15.out.size))
        clear bl C HB15
        go_wp2
        go_ret
        exact ⟨rfl, HB16.out⟩

      · have hge : ¬ k < n := hkn
        have HX := Lib.hid (And.intro (HT4.out.keep HB.out) (HU4.out.keep HB.out))
        have HBw := Lib.hid (HB4.out.trans (HB.out.mono HB4.out.size))
        have HNL := Lib.hid (show (ordL obj os).length = n by rw [ordL_length, HN.out])
        clear HT4 HU4 HB HB4
        have C := Lib.hid (sameEq wr a1 a2 Z.length c1 c2 Z HX.out.1.h1 HX.out.1.h2 HZl.out.1)
        go_wp2_with fail
        refine C.out.mono ?_
        rintro e w10 ⟨rfl, bl⟩
        have HB10 := Lib.hid (HBw.out.trans (bl.mono HBw.out.size))
        have HX10 := Lib.hid (And.intro (HX.out.1.keep bl) (HX.out.2.keep bl))
        clear bl C HX HBw
        have C := Lib.hid (toldEq w10 (some ⟨b1, 0, none⟩) t2 n n d2 T HX10.out.1.h3 HX10.out.1.h4 (by omega))
        go_wp2_with fail
        refine C.out.mono ?_
        rintro e w11 ⟨rfl, bl⟩
        have HB11 := Lib.hid (HB10.out.trans (bl.mono HB10.out.size))
        have HX11 := Lib.hid (HX10.out.2.keep bl)
        clear bl C HX10 HB10
        have C := Lib.hid (sameEq w11 a3 a4 Y.length c3 c4 Y HX11.out.h1 HX11.out.h2 HZl.out.2)
        go_wp2_with fail
        refine C.out.mono ?_
        rintro e w12 ⟨rfl, bl⟩
        have HB12 := Lib.hid (HB11.out.trans (bl.mono HB11.out.size))
        have HX12 := Lib.hid (HX11.out.keep bl)
        clear bl C HX11 HB11
        have C := Lib.hid (toldEq w12 (some ⟨b3, 0, none⟩) (some ⟨b4, 0, none⟩) n n n P HX12.out.h3 HX12.out.h4 (by omega))
        go_wp2_with fail
        refine C.out.mono ?_
        rintro e w13 ⟨rfl, bl⟩
        have HB13 := Lib.hid (HB12.out.trans (bl.mono HB12.out.size))
        clear bl C HX12 HB12
        have C := Lib.hid (orderAny w13 obj ap n cap os (HO.out.keep HB13.out) (by omega))
        go_wp2_with fail
        refine C.out.mono ?_
        rintro e w14 ⟨al, cl, rfl, r14, _, _, bl⟩
        rw [HNL.out] at r14 ⊢
        have HR14 := Lib.hid r14
        have HB14 := Lib.hid (HB13.out.trans (bl.mono HB13.out.size))
        clear bl r14 C HB13
        have C := Lib.hid (refOrder w14 obj ap n cap os (HO.out.keep HB14.out) (by omega))
        go_wp2_with fail
        refine C.out.mono ?_
        rintro e w15 ⟨al2, cl2, rfl, r15, _, bl⟩
        have HR15 := Lib.hid (And.intro (HR14.out.keep bl) r15)
        have HB15 := Lib.hid (HB14.out.trans (bl.mono HB14.out.size))
        clear bl r15 C HB14 HR14
        have C := Lib.hid (intsEq w15 al al2 n cl cl2 (ordL obj os) HR15.out.1 HR15.out.2 (by omega))
        go_wp2_with fail
        refine C.out.mono ?_
        rintro e w16 ⟨rfl, bl⟩
        have HB16 := Lib.hid (HB15.out.trans (bl.mono HB15.out.size))
        clear bl C HB15
        go_wp2
        go_ret
        exact ⟨rfl, HB16.out⟩

end Go.Proofs.Ytejnadokjnfagaa
