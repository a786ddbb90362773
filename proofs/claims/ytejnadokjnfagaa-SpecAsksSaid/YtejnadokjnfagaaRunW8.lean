/-
  Run of package spec: the walk. Conditions: at most a thousand items and a thousand operations.
-/
import Derived.Test.YtejnadokjnfagaaRun8
namespace Go.Proofs.Ytejnadokjnfagaa
open Go.RowKit Go.Lib

theorem infoRes : (Try.prog.info? 32).map (fun i => (i.zero, i.size, i.bytes)) = some (some (.agg #[.int .u8 0, .int .i32 0]), 2, 8) := by kernel_rfl

theorem madeNums {w w1 : World} {n : Nat} (ho : w1.ownsRow w.heap.size 21 1 (.slice (some ⟨w.heap.size, 0, none⟩) n n) n (madeCells (Value.int .i32 0).cells (n * 1)).toList) (hg : w.grownBy w1 none) :
    w1.heap[w.heap.size]? = some (.cells (List.replicate n (Value.int .i32 0)).toArray 21 (0, 0)) ∧ Below w.heap.size w w1 := by
  have hr := rowWhole ho
  rw [show (Value.int .i32 0).cells = #[Value.int .i32 0] from rfl, Nat.mul_one, toList_madeCells_one] at hr
  exact ⟨hr, (Below.refl _ _).grown hg (Nat.le_refl _) (by simp)⟩

theorem made_two (n : Nat) : (madeCells (Value.agg #[.int .u8 0, .int .i32 0]).cells (n * 2)).toList = flatO (List.replicate n (0, 0)) := by
  apply List.ext_getElem?
  intro j
  by_cases hj : j < n * 2
  · have h2 := flatO_at (List.replicate n (0, 0)) (j / 2) (by simp; omega)
    have hd : (List.replicate n ((0, 0) : Int × Int)).getD (j / 2) (0, 0) = (0, 0) := by simp [List.getD, show j / 2 < n by omega]
    rw [hd] at h2
    have e : (madeCells (Value.agg #[.int .u8 0, .int .i32 0]).cells (n * 2)).toList[j]? = some (if j % 2 = 0 then Value.int .u8 0 else .int .i32 0) := by
      simp only [madeCells, Value.cells]
      rcases Nat.mod_two_eq_zero_or_one j with h | h <;> simp [hj, h]
    rw [e]
    rcases Nat.mod_two_eq_zero_or_one j with h | h
    · rw [if_pos h, show j = j / 2 * 2 by omega]; exact h2.1.symm
    · rw [if_neg (by omega), show j = j / 2 * 2 + 1 by omega]; exact h2.2.symm
  · rw [List.getElem?_eq_none (by simp [madeCells]; omega), List.getElem?_eq_none (by rw [flatO_length]; simp; omega)]
theorem madeRes {w w1 : World} {n : Nat} (ho : w1.ownsRow w.heap.size 32 2 (.slice (some ⟨w.heap.size, 0, none⟩) n n) n (madeCells (Value.agg #[.int .u8 0, .int .i32 0]).cells (n * 2)).toList) (hg : w.grownBy w1 none) :
    RRow w1 w.heap.size (List.replicate n (0, 0)) ∧ Below w.heap.size w w1 := by
  refine ⟨?_, (Below.refl _ _).grown hg (Nat.le_refl _) (by simp)⟩
  rw [made_two] at ho
  rcases ho.2 with ⟨h', _⟩ | ⟨g', cap', cur, h', _, hgg, _, _, hcs, htake⟩
  · simp at h'
  · simp only [Value.slice.injEq, Option.some.injEq, Addr.mk.injEq, and_true, true_and] at h'
    obtain ⟨rfl, rfl⟩ := h'
    unfold RRow
    rw [hgg, ← htake, List.take_of_length_le (by simp; omega)]

set_option maxRecDepth 100000 in
set_option maxHeartbeats 32000000 in
theorem runAny (w : World) (obj most : Int) (ao ap : Option Addr) (nz capz n cap : Nat) (zs : List Int) (os : List (Int × Int)) (hz : Reads .i32 w ao nz zs) (ho : OpsAt w ap n os) (hnz : nz ≤ 1000) (hn : n ≤ 1000) :
    Calls Try.prog 16 #[.int .u8 obj, .int .i64 most, .slice ao nz capz, .slice ap n cap] w (RunPost w obj (mostOf most) zs os) := by
  obtain ⟨i0, hi, hz0, hz1, hz2⟩ := info_parts infoI32
  obtain ⟨j0, hj, hy0, hy1, hy2⟩ := info_parts infoRes
  have HZ := Lib.hid hz
  have HO := Lib.hid ho
  clear hz ho
  go_enter Try.func16, Try.ntmps16
  go_upto_region 1 with (fail)
  go_cut [10] from 18 to 20 (fun s wx => Hid (DoesAt wx s (objM obj) ∧ Below w.heap.size w wx))
  case first =>
    go_wp2_with fail
    refine (actsAny w).mono ?_
    rintro e w1 ⟨b1, m, rfl, a1⟩
    obtain ⟨dv, hl, hd⟩ := a1.look obj
    have HD := Lib.hid (And.intro hd b1)
    clear b1 a1 hd
    go_wp2_with (simp only)
    go_meet
    exact HD
  case' rest => skip
  have HD := hcut
  clear hcut
  generalize wc = w1 at *
  generalize u10 = dv at *
  go_upto_region 2 with (fail)
  go_cut [11] from 21 to 23 (fun s wx => s = .int .i64 (mostOf most) ∧ w1 = wx)
  case first =>
    rcases (show most < 0 ∨ most = 0 ∨ (0 < most ∧ most < 1000) ∨ most = 1000 ∨ 1000 < most from by omega) with h | h | h | h | h
    · have HE := Lib.hid (show mostOf most = 0 by unfold mostOf; rw [if_pos h])
      have h2 : ¬ 0 < most := by omega
      have h3 : ¬ 0 ≤ most := by omega
      go_wp2_with fail
      go_meet
      exact ⟨by rw [HE.out], rfl⟩
    · subst h
      have HE := Lib.hid (show mostOf 0 = 0 from rfl)
      go_wp2_with fail
      go_meet
      exact ⟨by rw [HE.out], rfl⟩
    · obtain ⟨h1, h2⟩ := h
      have HE := Lib.hid (show mostOf most = most by unfold mostOf; rw [if_neg (by omega), if_neg (by omega)])
      have h3 : ¬ most < 0 := by omega
      have h4 : ¬ 1000 < most := by omega
      go_wp2_with fail
      go_meet
      exact ⟨by rw [HE.out], rfl⟩
    · subst h
      have HE := Lib.hid (show mostOf 1000 = 1000 from rfl)
      go_wp2_with fail
      go_meet
      exact ⟨by rw [HE.out], rfl⟩
    · have HE := Lib.hid (show mostOf most = 1000 by unfold mostOf; rw [if_neg (by omega), if_pos h])
      have h2 : ¬ most < 0 := by omega
      have h3 : ¬ most < 1000 := by omega
      go_wp2_with fail
      go_meet
      exact ⟨by rw [HE.out], rfl⟩
  case' rest => skip
  obtain ⟨rfl, rfl⟩ := hcut
  go_upto_region 4 with (at_make; refine wpList_make_full _ rfl _ _ 22 rfl w1.heap.size 21 i0 _ 1 Try.underlying22 hi hz0 hz1 .i64 .i64 _ _ nz rfl rfl rfl rfl (by rw [hz2]; omega) (by simp only [maxLen]; omega) (Nat.le_refl _) ?_; intro w2 hown2 hgrow2; have HM := Lib.hid (madeNums hown2 hgrow2); clear hown2 hgrow2)
  have HZ2 := Lib.hid ((HZ.out.keep HD.out.2).keep HM.out.2)
  obtain ⟨w3, hcp, t3, hw3⟩ := copy_made (P := Try.prog) w2 22 3 21 21 w1.heap.size nz capz ao zs Try.underlying22 infoSize32 HM.out.1 HZ2.out (by simp only [maxLen]; omega)
  have HT3 := Lib.hid t3
  have HB3 := Lib.hid (HM.out.2.trans (hw3.below HM.out.2.size (fun g hg => by omega)))
  clear t3 hw3
  go_upto_region 6 with (first
    | (at_builtin; refine wpList_copy_known _ rfl _ _ 22 22 rfl _ _ rfl rfl hcp ?_)
    | (at_make; refine wpList_make_full _ rfl _ _ 38 rfl w3.heap.size 32 j0 _ 2 Try.underlying38 hj hy0 hy1 .i64 .i64 _ _ n rfl rfl rfl rfl (by rw [hy2]; omega) (by simp only [maxLen]; omega) (Nat.le_refl _) ?_; intro w4 hown4 hgrow4; have HN := Lib.hid (madeRes hown4 hgrow4); clear hown4 hgrow4))
  have HL := Lib.hid HO.out.1
  have HS := Lib.hid (show RunAt w obj (mostOf most) zs os dv w3.heap.size n 0 (.slice (some ⟨w1.heap.size, 0, none⟩) nz nz) w4 from by
    have hs1 := HD.out.2.size
    have hs3 := HB3.out.size
    have hs2 := HM.out.2.size
    have hlt2 : w1.heap.size < w2.heap.size := lt_of_block HM.out.1
    refine ⟨?_, ?_, ?_, ?_, ?_, by omega⟩
    · have := tail_in HT3.out HN.out.2
      simpa [runZ] using this
    · have := HN.out.1
      simpa [toldK, runT] using this
    · exact (HD.out.1.below HB3.out).below HN.out.2
    · exact (HD.out.2.trans (HB3.out.mono hs1)).trans (HN.out.2.mono (by omega))
    · intro g hg
      simp only [Value.ownBlock, Option.some.injEq] at hg
      subst hg
      exact ⟨hs1, by have := HT3.out.lt (g := w1.heap.size) rfl; omega, fun e => by have := HD.out.1.lt _ e; omega⟩)
  clear HD HM HT3 HB3 HN hcp
  generalize w3.heap.size = b at *
  generalize hv0 : Value.slice (some (⟨w1.heap.size, 0, none⟩ : Addr)) nz nz = v0 at *
  have HRL := Lib.hid (fun (k : Nat) => runZ_le (obj := obj) (mostOf_in most).2 (os.take k) zs (by rw [HZ.out.1]; exact hnz))
  clear hv0 HZ2
  go_wp2_with fail
  go_loopw [12, 35] (fun v i wr => ∃ k : Nat, k ≤ n ∧ i = .int .i64 k ∧ RunAt w obj (mostOf most) zs os dv b n k v wr) (fun _ i _ => n - (intOf i).toNat)
  case atStart => exact ⟨0, Nat.zero_le _, rfl, HS.out⟩
  case round =>
    obtain ⟨k, hk, rfl, hr⟩ := hrel
    clear HS
    generalize u12 = v at *
    by_cases hlt : k < n
    · obtain ⟨bo, off, rfl, bl, hc⟩ := HO.out.2 (by omega)
      have y0 := (hr.bl.cell (p := ⟨bo, off + k * 2, none⟩) bl).trans (hc k hlt).1
      have y1 := (hr.bl.cell (p := ⟨bo, off + k * 2 + 1, none⟩) bl).trans (hc k hlt).2
      have i1 : (k : Int) < n := by omega
      have HR := Lib.hid hr
      obtain ⟨kd, hkd⟩ : ∃ x, (os.getD k (0, 0)).1 = x := ⟨_, rfl⟩
      obtain ⟨kv, hkv⟩ : ∃ x, (os.getD k (0, 0)).2 = x := ⟨_, rfl⟩
      rw [hkd] at y0
      rw [hkv] at y1
      have HKO := Lib.hid (show os.getD k (0, 0) = (kd, kv) by rw [← hkd, ← hkv])
      have HZL := Lib.hid (HRL.out k)
      have HTL := Lib.hid (show (runT obj (mostOf most) zs (os.take k)).length = k by rw [runT_length]; simp; rw [HL.out]; omega)
      clear hc hr hkd hkv
      rcases actCases obj kd with hact | hact | hact | hact | hact | hact
      · obtain ⟨ai, hfi⟩ := hact.1
        have LY := fun (W : World) (h : DoesAt W dv (objM obj)) => h.lookYes hfi
        have CD := Lib.hid (fun (W : World) (h : Tail W v ((runZ obj (mostOf most) zs (os.take k)).map (Value.int .i32))) => hact.2 W v _ (mostOf most) kv h (mostOf_in most).2 HZL.out)
        have HNX := Lib.hid (fun (v' : Value) (w' : World) => RunAt.next (w := w) (w' := w') (obj := obj) (m := mostOf most) (zs := zs) (os := os) (dv := dv) (b := b) (n := n) (k := k) (v' := v') (o := (kd, kv)) hlt HL.out HKO.out HR.out.bb)
        clear hact hfi
        generalize objL obj (mostOf most) (runZ obj (mostOf most) zs (os.take k)) kd kv = zl at *
        generalize objC obj (mostOf most) (runZ obj (mostOf most) zs (os.take k)) kd = rc at *
        generalize objV obj (runZ obj (mostOf most) zs (os.take k)) kd = rv at *
        go_upto_region 9 with (fail)
        generalize hW : wr.alloc (.cells #[.int .u8 kd, .int .i32 kv] 36) = W
        have hb1 : Below wr.heap.size wr W := by subst hW; exact (Below.refl _ _).alloc (Nat.le_refl _) _
        have x0 : W.cell? ⟨wr.heap.size, 0, none⟩ = some (.int .u8 kd) := by subst hW; go_simp
        have x1 : W.cell? ⟨wr.heap.size, 1, none⟩ = some (.int .i32 kv) := by subst hW; go_simp
        have xl : wr.heap.size < W.heap.size := by subst hW; simp
        have HR1 := Lib.hid (HR.out.fresh hb1)
        have LK := LY W HR1.out.d
        clear hW hb1 LY y0 y1 HR
        generalize wr.heap.size = g0 at *
        unfold actV at LK
        go_upto_region 12 with (simp only [LK])
        generalize hW2 : W.alloc (.cells #[.func (.func 34) #[] #[], .func (.func 35) #[] #[]] 58) = W2
        have hb2 : Below W.heap.size W W2 := by subst hW2; exact (Below.refl _ _).alloc (Nat.le_refl _) _
        have f0 : W2.cell? ⟨W.heap.size, 0, none⟩ = some (.func (.func 34) #[] #[]) := by subst hW2; go_simp
        have f1 : W2.cell? ⟨W.heap.size, 1, none⟩ = some (.func (.func 35) #[] #[]) := by subst hW2; go_simp
        have x2 := (hb2.cell (p := ⟨g0, 1, none⟩) xl).trans x1
        have HR2 := Lib.hid (HR1.out.fresh hb2)
        clear hW2 hb2 LK x0 x1 xl HR1
        generalize W.heap.size = g1 at *
        go_wp2_with fail
        refine (CD.out W2 HR2.out.t).mono ?_
        rintro e w5 hd
        obtain ⟨v', e5, hd'⟩ := hd
        subst e5
        obtain ⟨t5, r5, d5, b5, vb5, _⟩ := HR2.out.called (c := rc) (x := rv) ⟨v', rfl, hd'⟩
        have c := r5.cells (i := k) (by simp [toldK, HTL.out]; omega)
        obtain ⟨c0, c1⟩ := c
        have fz := r5.free
        have HQ := Lib.hid (show RunAt w obj (mostOf most) zs os dv b n (k + 1) v' ((w5.setCell ⟨b, k * 2, none⟩ (.int .u8 rc)).setCell ⟨b, k * 2 + 1, none⟩ (.int .i32 rv)) from by
          refine HNX.out v' _ ?_ (r5.set2 k rc rv) ?_ ?_ vb5
          · exact (t5.other (p := ⟨b, k * 2, none⟩) (fun e => (vb5 b e).2.1 rfl) _).other (p := ⟨b, k * 2 + 1, none⟩) (fun e => (vb5 b e).2.1 rfl) _
          · exact d5.row r5 (((Wrote.refl (fun g => g = b) w5).setCell (q := ⟨b, k * 2, none⟩) (.inr rfl) _).setCell (q := ⟨b, k * 2 + 1, none⟩) (.inr rfl) _)
          · exact (b5.setCell (p := ⟨b, k * 2, none⟩) HR2.out.bb _).setCell (p := ⟨b, k * 2 + 1, none⟩) HR2.out.bb _)
        clear hd' t5 r5 d5 b5 vb5
        go_wp2
        go_roundw
        case rel => exact ⟨k + 1, by omega, by go_num, HQ.out⟩
        case measure => simp [intOf]; omega
      · obtain ⟨ai, hfi⟩ := hact.1
        have LY := fun (W : World) (h : DoesAt W dv (objM obj)) => h.lookYes hfi
        have CD := Lib.hid (fun (W : World) (h : Tail W v ((runZ obj (mostOf most) zs (os.take k)).map (Value.int .i32))) => hact.2 W v _ (mostOf most) kv h (mostOf_in most).2 HZL.out)
        have HNX := Lib.hid (fun (v' : Value) (w' : World) => RunAt.next (w := w) (w' := w') (obj := obj) (m := mostOf most) (zs := zs) (os := os) (dv := dv) (b := b) (n := n) (k := k) (v' := v') (o := (kd, kv)) hlt HL.out HKO.out HR.out.bb)
        clear hact hfi
        generalize objL obj (mostOf most) (runZ obj (mostOf most) zs (os.take k)) kd kv = zl at *
        generalize objC obj (mostOf most) (runZ obj (mostOf most) zs (os.take k)) kd = rc at *
        generalize objV obj (runZ obj (mostOf most) zs (os.take k)) kd = rv at *
        go_upto_region 9 with (fail)
        generalize hW : wr.alloc (.cells #[.int .u8 kd, .int .i32 kv] 36) = W
        have hb1 : Below wr.heap.size wr W := by subst hW; exact (Below.refl _ _).alloc (Nat.le_refl _) _
        have x0 : W.cell? ⟨wr.heap.size, 0, none⟩ = some (.int .u8 kd) := by subst hW; go_simp
        have x1 : W.cell? ⟨wr.heap.size, 1, none⟩ = some (.int .i32 kv) := by subst hW; go_simp
        have xl : wr.heap.size < W.heap.size := by subst hW; simp
        have HR1 := Lib.hid (HR.out.fresh hb1)
        have LK := LY W HR1.out.d
        clear hW hb1 LY y0 y1 HR
        generalize wr.heap.size = g0 at *
        unfold actV at LK
        go_upto_region 12 with (simp only [LK])
        generalize hW2 : W.alloc (.cells #[.func (.func 34) #[] #[], .func (.func 38) #[] #[]] 58) = W2
        have hb2 : Below W.heap.size W W2 := by subst hW2; exact (Below.refl _ _).alloc (Nat.le_refl _) _
        have f0 : W2.cell? ⟨W.heap.size, 0, none⟩ = some (.func (.func 34) #[] #[]) := by subst hW2; go_simp
        have f1 : W2.cell? ⟨W.heap.size, 1, none⟩ = some (.func (.func 38) #[] #[]) := by subst hW2; go_simp
        have x2 := (hb2.cell (p := ⟨g0, 1, none⟩) xl).trans x1
        have HR2 := Lib.hid (HR1.out.fresh hb2)
        clear hW2 hb2 LK x0 x1 xl HR1
        generalize W.heap.size = g1 at *
        go_wp2_with fail
        refine (CD.out W2 HR2.out.t).mono ?_
        rintro e w5 hd
        obtain ⟨v', e5, hd'⟩ := hd
        subst e5
        obtain ⟨t5, r5, d5, b5, vb5, _⟩ := HR2.out.called (c := rc) (x := rv) ⟨v', rfl, hd'⟩
        have c := r5.cells (i := k) (by simp [toldK, HTL.out]; omega)
        obtain ⟨c0, c1⟩ := c
        have fz := r5.free
        have HQ := Lib.hid (show RunAt w obj (mostOf most) zs os dv b n (k + 1) v' ((w5.setCell ⟨b, k * 2, none⟩ (.int .u8 rc)).setCell ⟨b, k * 2 + 1, none⟩ (.int .i32 rv)) from by
          refine HNX.out v' _ ?_ (r5.set2 k rc rv) ?_ ?_ vb5
          · exact (t5.other (p := ⟨b, k * 2, none⟩) (fun e => (vb5 b e).2.1 rfl) _).other (p := ⟨b, k * 2 + 1, none⟩) (fun e => (vb5 b e).2.1 rfl) _
          · exact d5.row r5 (((Wrote.refl (fun g => g = b) w5).setCell (q := ⟨b, k * 2, none⟩) (.inr rfl) _).setCell (q := ⟨b, k * 2 + 1, none⟩) (.inr rfl) _)
          · exact (b5.setCell (p := ⟨b, k * 2, none⟩) HR2.out.bb _).setCell (p := ⟨b, k * 2 + 1, none⟩) HR2.out.bb _)
        clear hd' t5 r5 d5 b5 vb5
        go_wp2
        go_roundw
        case rel => exact ⟨k + 1, by omega, by go_num, HQ.out⟩
        case measure => simp [intOf]; omega
      · obtain ⟨ai, hfi⟩ := hact.1
        have LY := fun (W : World) (h : DoesAt W dv (objM obj)) => h.lookYes hfi
        have CD := Lib.hid (fun (W : World) (h : Tail W v ((runZ obj (mostOf most) zs (os.take k)).map (Value.int .i32))) => hact.2 W v _ (mostOf most) kv h (mostOf_in most).2 HZL.out)
        have HNX := Lib.hid (fun (v' : Value) (w' : World) => RunAt.next (w := w) (w' := w') (obj := obj) (m := mostOf most) (zs := zs) (os := os) (dv := dv) (b := b) (n := n) (k := k) (v' := v') (o := (kd, kv)) hlt HL.out HKO.out HR.out.bb)
        clear hact hfi
        generalize objL obj (mostOf most) (runZ obj (mostOf most) zs (os.take k)) kd kv = zl at *
        generalize objC obj (mostOf most) (runZ obj (mostOf most) zs (os.take k)) kd = rc at *
        generalize objV obj (runZ obj (mostOf most) zs (os.take k)) kd = rv at *
        go_upto_region 9 with (fail)
        generalize hW : wr.alloc (.cells #[.int .u8 kd, .int .i32 kv] 36) = W
        have hb1 : Below wr.heap.size wr W := by subst hW; exact (Below.refl _ _).alloc (Nat.le_refl _) _
        have x0 : W.cell? ⟨wr.heap.size, 0, none⟩ = some (.int .u8 kd) := by subst hW; go_simp
        have x1 : W.cell? ⟨wr.heap.size, 1, none⟩ = some (.int .i32 kv) := by subst hW; go_simp
        have xl : wr.heap.size < W.heap.size := by subst hW; simp
        have HR1 := Lib.hid (HR.out.fresh hb1)
        have LK := LY W HR1.out.d
        clear hW hb1 LY y0 y1 HR
        generalize wr.heap.size = g0 at *
        unfold actV at LK
        go_upto_region 12 with (simp only [LK])
        generalize hW2 : W.alloc (.cells #[.func (.func 34) #[] #[], .func (.func 39) #[] #[]] 58) = W2
        have hb2 : Below W.heap.size W W2 := by subst hW2; exact (Below.refl _ _).alloc (Nat.le_refl _) _
        have f0 : W2.cell? ⟨W.heap.size, 0, none⟩ = some (.func (.func 34) #[] #[]) := by subst hW2; go_simp
        have f1 : W2.cell? ⟨W.heap.size, 1, none⟩ = some (.func (.func 39) #[] #[]) := by subst hW2; go_simp
        have x2 := (hb2.cell (p := ⟨g0, 1, none⟩) xl).trans x1
        have HR2 := Lib.hid (HR1.out.fresh hb2)
        clear hW2 hb2 LK x0 x1 xl HR1
        generalize W.heap.size = g1 at *
        go_wp2_with fail
        refine (CD.out W2 HR2.out.t).mono ?_
        rintro e w5 hd
        obtain ⟨v', e5, hd'⟩ := hd
        subst e5
        obtain ⟨t5, r5, d5, b5, vb5, _⟩ := HR2.out.called (c := rc) (x := rv) ⟨v', rfl, hd'⟩
        have c := r5.cells (i := k) (by simp [toldK, HTL.out]; omega)
        obtain ⟨c0, c1⟩ := c
        have fz := r5.free
        have HQ := Lib.hid (show RunAt w obj (mostOf most) zs os dv b n (k + 1) v' ((w5.setCell ⟨b, k * 2, none⟩ (.int .u8 rc)).setCell ⟨b, k * 2 + 1, none⟩ (.int .i32 rv)) from by
          refine HNX.out v' _ ?_ (r5.set2 k rc rv) ?_ ?_ vb5
          · exact (t5.other (p := ⟨b, k * 2, none⟩) (fun e => (vb5 b e).2.1 rfl) _).other (p := ⟨b, k * 2 + 1, none⟩) (fun e => (vb5 b e).2.1 rfl) _
          · exact d5.row r5 (((Wrote.refl (fun g => g = b) w5).setCell (q := ⟨b, k * 2, none⟩) (.inr rfl) _).setCell (q := ⟨b, k * 2 + 1, none⟩) (.inr rfl) _)
          · exact (b5.setCell (p := ⟨b, k * 2, none⟩) HR2.out.bb _).setCell (p := ⟨b, k * 2 + 1, none⟩) HR2.out.bb _)
        clear hd' t5 r5 d5 b5 vb5
        go_wp2
        go_roundw
        case rel => exact ⟨k + 1, by omega, by go_num, HQ.out⟩
        case measure => simp [intOf]; omega
      · obtain ⟨ai, hfi⟩ := hact.1
        have LY := fun (W : World) (h : DoesAt W dv (objM obj)) => h.lookYes hfi
        have CD := Lib.hid (fun (W : World) (h : Tail W v ((runZ obj (mostOf most) zs (os.take k)).map (Value.int .i32))) => hact.2 W v _ (mostOf most) kv h (mostOf_in most).2 HZL.out)
        have HNX := Lib.hid (fun (v' : Value) (w' : World) => RunAt.next (w := w) (w' := w') (obj := obj) (m := mostOf most) (zs := zs) (os := os) (dv := dv) (b := b) (n := n) (k := k) (v' := v') (o := (kd, kv)) hlt HL.out HKO.out HR.out.bb)
        clear hact hfi
        generalize objL obj (mostOf most) (runZ obj (mostOf most) zs (os.take k)) kd kv = zl at *
        generalize objC obj (mostOf most) (runZ obj (mostOf most) zs (os.take k)) kd = rc at *
        generalize objV obj (runZ obj (mostOf most) zs (os.take k)) kd = rv at *
        go_upto_region 9 with (fail)
        generalize hW : wr.alloc (.cells #[.int .u8 kd, .int .i32 kv] 36) = W
        have hb1 : Below wr.heap.size wr W := by subst hW; exact (Below.refl _ _).alloc (Nat.le_refl _) _
        have x0 : W.cell? ⟨wr.heap.size, 0, none⟩ = some (.int .u8 kd) := by subst hW; go_simp
        have x1 : W.cell? ⟨wr.heap.size, 1, none⟩ = some (.int .i32 kv) := by subst hW; go_simp
        have xl : wr.heap.size < W.heap.size := by subst hW; simp
        have HR1 := Lib.hid (HR.out.fresh hb1)
        have LK := LY W HR1.out.d
        clear hW hb1 LY y0 y1 HR
        generalize wr.heap.size = g0 at *
        unfold actV at LK
        go_upto_region 12 with (simp only [LK])
        generalize hW2 : W.alloc (.cells #[.func (.func 36) #[] #[], .func (.func 38) #[] #[]] 58) = W2
        have hb2 : Below W.heap.size W W2 := by subst hW2; exact (Below.refl _ _).alloc (Nat.le_refl _) _
        have f0 : W2.cell? ⟨W.heap.size, 0, none⟩ = some (.func (.func 36) #[] #[]) := by subst hW2; go_simp
        have f1 : W2.cell? ⟨W.heap.size, 1, none⟩ = some (.func (.func 38) #[] #[]) := by subst hW2; go_simp
        have x2 := (hb2.cell (p := ⟨g0, 1, none⟩) xl).trans x1
        have HR2 := Lib.hid (HR1.out.fresh hb2)
        clear hW2 hb2 LK x0 x1 xl HR1
        generalize W.heap.size = g1 at *
        go_wp2_with fail
        refine (CD.out W2 HR2.out.t).mono ?_
        rintro e w5 hd
        obtain ⟨v', e5, hd'⟩ := hd
        subst e5
        obtain ⟨t5, r5, d5, b5, vb5, _⟩ := HR2.out.called (c := rc) (x := rv) ⟨v', rfl, hd'⟩
        have c := r5.cells (i := k) (by simp [toldK, HTL.out]; omega)
        obtain ⟨c0, c1⟩ := c
        have fz := r5.free
        have HQ := Lib.hid (show RunAt w obj (mostOf most) zs os dv b n (k + 1) v' ((w5.setCell ⟨b, k * 2, none⟩ (.int .u8 rc)).setCell ⟨b, k * 2 + 1, none⟩ (.int .i32 rv)) from by
          refine HNX.out v' _ ?_ (r5.set2 k rc rv) ?_ ?_ vb5
          · exact (t5.other (p := ⟨b, k * 2, none⟩) (fun e => (vb5 b e).2.1 rfl) _).other (p := ⟨b, k * 2 + 1, none⟩) (fun e => (vb5 b e).2.1 rfl) _
          · exact d5.row r5 (((Wrote.refl (fun g => g = b) w5).setCell (q := ⟨b, k * 2, none⟩) (.inr rfl) _).setCell (q := ⟨b, k * 2 + 1, none⟩) (.inr rfl) _)
          · exact (b5.setCell (p := ⟨b, k * 2, none⟩) HR2.out.bb _).setCell (p := ⟨b, k * 2 + 1, none⟩) HR2.out.bb _)
        clear hd' t5 r5 d5 b5 vb5
        go_wp2
        go_roundw
        case rel => exact ⟨k + 1, by omega, by go_num, HQ.out⟩
        case measure => simp [intOf]; omega
      · obtain ⟨ai, hfi⟩ := hact.1
        have LY := fun (W : World) (h : DoesAt W dv (objM obj)) => h.lookYes hfi
        have CD := Lib.hid (fun (W : World) (h : Tail W v ((runZ obj (mostOf most) zs (os.take k)).map (Value.int .i32))) => hact.2 W v _ (mostOf most) kv h (mostOf_in most).2 HZL.out)
        have HNX := Lib.hid (fun (v' : Value) (w' : World) => RunAt.next (w := w) (w' := w') (obj := obj) (m := mostOf most) (zs := zs) (os := os) (dv := dv) (b := b) (n := n) (k := k) (v' := v') (o := (kd, kv)) hlt HL.out HKO.out HR.out.bb)
        clear hact hfi
        generalize objL obj (mostOf most) (runZ obj (mostOf most) zs (os.take k)) kd kv = zl at *
        generalize objC obj (mostOf most) (runZ obj (mostOf most) zs (os.take k)) kd = rc at *
        generalize objV obj (runZ obj (mostOf most) zs (os.take k)) kd = rv at *
        go_upto_region 9 with (fail)
        generalize hW : wr.alloc (.cells #[.int .u8 kd, .int .i32 kv] 36) = W
        have hb1 : Below wr.heap.size wr W := by subst hW; exact (Below.refl _ _).alloc (Nat.le_refl _) _
        have x0 : W.cell? ⟨wr.heap.size, 0, none⟩ = some (.int .u8 kd) := by subst hW; go_simp
        have x1 : W.cell? ⟨wr.heap.size, 1, none⟩ = some (.int .i32 kv) := by subst hW; go_simp
        have xl : wr.heap.size < W.heap.size := by subst hW; simp
        have HR1 := Lib.hid (HR.out.fresh hb1)
        have LK := LY W HR1.out.d
        clear hW hb1 LY y0 y1 HR
        generalize wr.heap.size = g0 at *
        unfold actV at LK
        go_upto_region 12 with (simp only [LK])
        generalize hW2 : W.alloc (.cells #[.func (.func 36) #[] #[], .func (.func 37) #[] #[]] 58) = W2
        have hb2 : Below W.heap.size W W2 := by subst hW2; exact (Below.refl _ _).alloc (Nat.le_refl _) _
        have f0 : W2.cell? ⟨W.heap.size, 0, none⟩ = some (.func (.func 36) #[] #[]) := by subst hW2; go_simp
        have f1 : W2.cell? ⟨W.heap.size, 1, none⟩ = some (.func (.func 37) #[] #[]) := by subst hW2; go_simp
        have x2 := (hb2.cell (p := ⟨g0, 1, none⟩) xl).trans x1
        have HR2 := Lib.hid (HR1.out.fresh hb2)
        clear hW2 hb2 LK x0 x1 xl HR1
        generalize W.heap.size = g1 at *
        go_wp2_with fail
        refine (CD.out W2 HR2.out.t).mono ?_
        rintro e w5 hd
        obtain ⟨v', e5, hd'⟩ := hd
        subst e5
        obtain ⟨t5, r5, d5, b5, vb5, _⟩ := HR2.out.called (c := rc) (x := rv) ⟨v', rfl, hd'⟩
        have c := r5.cells (i := k) (by simp [toldK, HTL.out]; omega)
        obtain ⟨c0, c1⟩ := c
        have fz := r5.free
        have HQ := Lib.hid (show RunAt w obj (mostOf most) zs os dv b n (k + 1) v' ((w5.setCell ⟨b, k * 2, none⟩ (.int .u8 rc)).setCell ⟨b, k * 2 + 1, none⟩ (.int .i32 rv)) from by
          refine HNX.out v' _ ?_ (r5.set2 k rc rv) ?_ ?_ vb5
          · exact (t5.other (p := ⟨b, k * 2, none⟩) (fun e => (vb5 b e).2.1 rfl) _).other (p := ⟨b, k * 2 + 1, none⟩) (fun e => (vb5 b e).2.1 rfl) _
          · exact d5.row r5 (((Wrote.refl (fun g => g = b) w5).setCell (q := ⟨b, k * 2, none⟩) (.inr rfl) _).setCell (q := ⟨b, k * 2 + 1, none⟩) (.inr rfl) _)
          · exact (b5.setCell (p := ⟨b, k * 2, none⟩) HR2.out.bb _).setCell (p := ⟨b, k * 2 + 1, none⟩) HR2.out.bb _)
        clear hd' t5 r5 d5 b5 vb5
        go_wp2
        go_roundw
        case rel => exact ⟨k + 1, by omega, by go_num, HQ.out⟩
        case measure => simp [intOf]; omega
      · obtain ⟨hfi, hall⟩ := hact
        have LY := fun (W : World) (h : DoesAt W dv (objM obj)) => h.lookNo hfi
        have HNX := Lib.hid (fun (v' : Value) (w' : World) => RunAt.next (w := w) (w' := w') (obj := obj) (m := mostOf most) (zs := zs) (os := os) (dv := dv) (b := b) (n := n) (k := k) (v' := v') (o := (kd, kv)) hlt HL.out HKO.out HR.out.bb)
        have HAll := Lib.hid (hall (mostOf most) (runZ obj (mostOf most) zs (os.take k)) kv)
        clear hfi hall
        go_upto_region 9 with (fail)
        generalize hW : wr.alloc (.cells #[.int .u8 kd, .int .i32 kv] 36) = W
        have hb1 : Below wr.heap.size wr W := by subst hW; exact (Below.refl _ _).alloc (Nat.le_refl _) _
        have x0 : W.cell? ⟨wr.heap.size, 0, none⟩ = some (.int .u8 kd) := by subst hW; go_simp
        have HR1 := Lib.hid (HR.out.fresh hb1)
        have LK := LY W HR1.out.d
        clear hW hb1 LY y0 y1 HR
        generalize wr.heap.size = g0 at *
        go_upto_region 11 with (simp only [LK])
        generalize hW2 : W.alloc (.cells #[.nilFunc, .nilFunc] 58) = W2
        have hb2 : Below W.heap.size W W2 := by subst hW2; exact (Below.refl _ _).alloc (Nat.le_refl _) _
        have HR2 := Lib.hid (HR1.out.fresh hb2)
        clear hW2 hb2 LK x0 HR1
        have r5 := HR2.out.r
        obtain ⟨c0, c1⟩ := r5.cells (i := k) (by simp [toldK, HTL.out]; omega)
        have fz := r5.free
        have HQ := Lib.hid (show RunAt w obj (mostOf most) zs os dv b n (k + 1) v (W2.setCell ⟨b, k * 2, none⟩ (.int .u8 5)) from by
          refine HNX.out v _ ?_ ?_ ?_ ?_ HR2.out.vb
          · rw [HAll.out.1]
            exact HR2.out.t.other (p := ⟨b, k * 2, none⟩) (fun e => (HR2.out.vb b e).2.1 rfl) _
          · rw [HAll.out.2.1, HAll.out.2.2]
            have := r5.set1 k 5
            rw [toldK_at _ _ _ HTL.out hlt] at this
            exact this
          · exact HR2.out.d.row r5 ((Wrote.refl (fun g => g = b) W2).setCell (q := ⟨b, k * 2, none⟩) (.inr rfl) _)
          · exact HR2.out.bl.setCell (p := ⟨b, k * 2, none⟩) HR2.out.bb _)
        clear r5
        go_wp2
        go_roundw
        case rel => exact ⟨k + 1, by omega, by go_num, HQ.out⟩
        case measure => simp [intOf]; omega
    · obtain rfl : k = n := by omega
      have HF := Lib.hid (hr.done HL.out)
      clear hr hlt
      go_wp2
      go_ret2
      exact HF.out

end Go.Proofs.Ytejnadokjnfagaa
