/-
  What reaperref03.Encode tells of entries: the same as script.Encode. Conditions: at most a thousand entries, each of numbers of their kinds.
-/
import Derived.Test.YtblkkafilabbkaaRefDec
import Derived.Test.YtblkkafilabbkaaBackWalk3
namespace Go.Proofs.Ytblkkafilabbkaa
open Go.RowKit

/-- The bytes that reaperref03 tries. -/
def refX (e : Ent) : List Int := [e.k, e.t % 256, e.ok, if e.k = 3 then e.b else e.ov % 256]

theorem refX_bytes (e : Ent) (h : e.ok') : ∀ z ∈ refX e, 0 ≤ z ∧ z ≤ 255 := by
  obtain ⟨h1, h2, h3, h4, h5⟩ := h
  intro z hz
  simp only [refX, List.mem_cons, List.not_mem_nil, or_false] at hz
  rcases hz with rfl | rfl | rfl | rfl
  · exact h1
  · omega
  · exact h3
  · split <;> omega

theorem refX_dec (e : Ent) (h : e.ok') (h3 : e.k ≤ 3) : decN (refX e) = decN (nearL e) := by
  obtain ⟨k, t, ok, ov, b⟩ := e
  obtain ⟨h1, _⟩ := h
  simp only at h1 h3
  obtain rfl | rfl | rfl | rfl : k = 0 ∨ k = 1 ∨ k = 2 ∨ k = 3 := by omega
  · simp [refX, decN, nearL, dec]
  · simp [refX, decN, nearL, dec]
  · simp [refX, decN, nearL, dec]
  · simp [refX, decN, nearL, dec]

theorem refX_same (e : Ent) (h : e.ok') (h3 : e.k ≤ 3) (hg : goodB e = true) : refX e = nearL e := by
  have hd := of_decide_eq_true (show decide (decN (nearL e) = e) = true from hg)
  obtain ⟨k, t, ok, ov, b⟩ := e
  obtain ⟨h1, _⟩ := h
  simp only at h1 h3
  obtain rfl | rfl | rfl | rfl : k = 0 ∨ k = 1 ∨ k = 2 ∨ k = 3 := by omega
  · simp [decN, nearL, dec] at hd
    obtain ⟨rfl, rfl, rfl, rfl⟩ := hd
    rfl
  · simp [refX, nearL]
  · simp [decN, nearL, dec] at hd
    obtain ⟨_, rfl, rfl, rfl⟩ := hd
    simp [refX, nearL]
  · simp [decN, nearL, dec] at hd
    obtain ⟨rfl, rfl, rfl⟩ := hd
    simp [refX, nearL]

theorem great_bad (e : Ent) (h3 : 3 < e.k) : goodB e = false := by
  refine decide_eq_false fun hd => ?_
  have : (decN (nearL e)).k = e.k := by rw [hd]
  rw [show nearL e = [0, 0, 0, 0] by simp [nearL, show ¬ e.k = 1 by omega, show ¬ e.k = 2 by omega, show ¬ e.k = 3 by omega]] at this
  simp [decN, dec] at this
  omega

theorem decL4' (x0 x1 x2 x3 : Int) : decL [x0, x1, x2, x3] = [decN [x0, x1, x2, x3]] := by
  rw [decL, show [x0, x1, x2, x3].length / 4 = 1 by simp]
  rfl

/-- What reaperref03.Encode tells. -/
def RefPost (w : World) (es : List Ent) (e : Ending) (w' : World) : Prop :=
  (es.all goodB = true ∧ ∃ ao cap, e = .returned (.tuple #[.slice ao (es.length * 4) cap, .int .i64 0]) ∧ Reads .u8 w' ao (es.length * 4) (encL es) ∧ es.length * 4 ≤ cap ∧ Below w.heap.size w w') ∨
  (es.all goodB = false ∧ e = .returned (.tuple #[.slice none 0 0, .int .i64 1]) ∧ Below w.heap.size w w')

theorem reads_four (w : World) (x0 x1 x2 x3 : Int) : Reads .u8 (w.alloc (.cells #[.int .u8 x0, .int .u8 x1, .int .u8 x2, .int .u8 x3] 5)) (some ⟨w.heap.size, 0, none⟩) 4 [x0, x1, x2, x3] := by
  refine ⟨rfl, fun _ => ⟨_, _, rfl, by simp, fun i hi => ?_⟩⟩
  rw [cell_of_row _ _ _ _ _ _ (heap_alloc_new w _)]
  match i, hi with
  | 0, _ => rfl
  | 1, _ => rfl
  | 2, _ => rfl
  | 3, _ => rfl

set_option maxRecDepth 100000 in
set_option maxHeartbeats 4000000 in
theorem refEncode (w : World) (a : Option Addr) (n c : Nat) (es : List Ent) (h : Ents w a n es) (hok : ∀ e ∈ es, e.ok') (hn : n ≤ 1000) :
    Calls Try.prog 11 #[.slice a n c] w (RefPost w es) := by
  obtain ⟨iB, hiB, hB0, hB1, hB2⟩ := info_parts infoB
  have HH := Lib.hid h
  have HL := Lib.hid h.1
  have HK := Lib.hid hok
  clear h hok
  go_enter Try.func11, Try.ntmps11
  go_wp2
  have HS := Lib.hid (show Encd w es 0 (.slice none 0 0) w from ⟨by simpa [encL] using World.ownsRow_nil w w.heap.size 5 1, Below.refl _ w, by simp⟩)
  go_loopw [4, 5] (fun v i wr => ∃ k : Nat, k ≤ n ∧ i = .int .i64 k ∧ Encd w es k v wr) (fun _ i _ => n - (intOf i).toNat)
  case atStart => exact ⟨0, Nat.zero_le _, rfl, HS.out⟩
  case round =>
    obtain ⟨k, hk, rfl, hpk⟩ := hrel
    have HE := Lib.hid hpk
    clear hpk HS
    by_cases hlt : k < n
    · obtain ⟨g1, o1, rfl, l1, h1⟩ := (HH.out.keep HE.out.2.1).2 (by omega)
      obtain ⟨c1, c2, c3, c4, c5⟩ := h1 k hlt
      have HKL := Lib.hid (show k < es.length by rw [HL.out]; exact hlt)
      have HMem := Lib.hid (show (es.getD k default).ok' from HK.out _ (by rw [show es.getD k default = es[k]'HKL.out by simp [List.getD, HKL.out]]; exact List.getElem_mem _))
      have HNext := Lib.hid (encL_next es k HKL.out)
      have HGood := Lib.hid (show goodB (es.getD k default) = true → (es.take (k + 1)).all goodB = true from all_next HKL.out HE.out.2.2)
      have HBad := Lib.hid (show goodB (es.getD k default) = false → es.all goodB = false from all_false HKL.out)
      clear h1
      have i0 : (k : Int) < n := by omega
      generalize es.getD k default = e1 at *
      have kb := HMem.out.1
      obtain ⟨kb0, kb1⟩ := kb
      have HDL := Lib.hid (show decL (refX e1) = [decN (refX e1)] from decL4' _ _ _ _)
      have HXb := Lib.hid (refX_bytes e1 HMem.out)
      by_cases h3 : e1.k = 3
      · have k3 : (e1.k == 3) = true := by simp [h3]
        have kg : ¬ 3 < e1.k := by omega
        have kd : decide (3 < e1.k) = false := by simp; omega
        have HX := Lib.hid (show refX e1 = [e1.k, e1.t % 256, e1.ok, e1.b] by simp [refX, h3])
        have h3' : e1.k ≤ 3 := by omega
        clear h3
        go_upto_region 9 with (fail)
        have HRd := Lib.hid (show Reads .u8 _ _ 4 (refX e1) by rw [HX.out]; exact reads_four (wr.alloc (.cells #[.int .u8 e1.k, .int .i64 e1.t, .int .u8 e1.ok, .int .i32 e1.ov, .int .u8 e1.b] 46)) e1.k (e1.t % 256) e1.ok e1.b)
        have HBox := Lib.hid ((EBox.new wr e1).alloc (.cells #[.int .u8 e1.k, .int .u8 (e1.t % 256), .int .u8 e1.ok, .int .u8 e1.b] 5))
        have HB2 := Lib.hid (((Below.refl wr.heap.size wr).alloc (Nat.le_refl _) (.cells #[.int .u8 e1.k, .int .i64 e1.t, .int .u8 e1.ok, .int .i32 e1.ov, .int .u8 e1.b] 46)).alloc (by simp) (.cells #[.int .u8 e1.k, .int .u8 (e1.t % 256), .int .u8 e1.ok, .int .u8 e1.b] 5))
        rw [World.size_alloc] at HRd
        generalize (wr.alloc (.cells #[.int .u8 e1.k, .int .i64 e1.t, .int .u8 e1.ok, .int .i32 e1.ov, .int .u8 e1.b] 46)).alloc (.cells #[.int .u8 e1.k, .int .u8 (e1.t % 256), .int .u8 e1.ok, .int .u8 e1.b] 5) = W2 at *
        have HCD := Lib.hid (refDecode W2.drew (some ⟨wr.heap.size + 1, 0, none⟩) 4 4 (refX e1) HRd.out HXb.out (by omega))
        rw [HDL.out] at HCD
        have z0 : W2.drew.cell? ⟨wr.heap.size, 0, none⟩ = some (.int .u8 e1.k) := HBox.out.c0
        have z1 : W2.drew.cell? ⟨wr.heap.size, 1, none⟩ = some (.int .i64 e1.t) := HBox.out.c1
        have z2 : W2.drew.cell? ⟨wr.heap.size, 2, none⟩ = some (.int .u8 e1.ok) := HBox.out.c2
        have z3 : W2.drew.cell? ⟨wr.heap.size, 3, none⟩ = some (.int .i32 e1.ov) := HBox.out.c3
        have z4 : W2.drew.cell? ⟨wr.heap.size, 4, none⟩ = some (.int .u8 e1.b) := HBox.out.c4
        clear c1 c2 c3 c4 c5
        have hq := @eqEnt
        by_cases hgd : goodB e1 = true
        · have HGd := Lib.hid hgd
          have hd : entEq (decN (refX e1)).k (decN (refX e1)).t (decN (refX e1)).ok (decN (refX e1)).ov (decN (refX e1)).b e1.k e1.t e1.ok e1.ov e1.b = true := by
            rw [entEq_of, refX_dec e1 HMem.out (by omega)]
            exact HGd.out
          clear hgd
          go_region_with (go_at_call 14; refine HCD.out.mono ?_; rintro e w3 ⟨a3, n3, c3, rfl, s3, b3⟩; obtain rfl : n3 = 1 := s3.1.symm; obtain ⟨q3, o3, rfl, _, hat⟩ := s3.2 (by omega); obtain ⟨r0, r1, r2, r3, r4⟩ := hat 0 (by omega); simp only [Nat.zero_mul, Nat.add_zero, List.getD_cons_zero] at r0 r1 r2 r3 r4; have hbx := HBox.out.keep (w := W2.drew) b3 HBox.out.lt; have y0 := hbx.c0; have y1 := hbx.c1; have y2 := hbx.c2; have y3 := hbx.c3; have y4 := hbx.c4; have HB3 := Lib.hid b3; clear b3 hbx hat s3)
          all_goals
            clear z0 z1 z2 z3 z4 y0 y1 y2 y3 y4 r0 r1 r2 r3 r4 HCD
            have HO3 := Lib.hid (own_below (own_below HE.out.1 HB2.out).drew HB3.out)
            have HR3 := Lib.hid (HRd.out.keep (w := W2.drew) HB3.out)
            have HW3 := Lib.hid (HE.out.2.1.trans ((HB2.out.mono HE.out.2.1.size).trans ((below_drewN (Below.refl _ W2) 1).trans (HB3.out.mono (Nat.le_trans HE.out.2.1.size HB2.out.size)))))
            go_wp2_with (at_builtin
                         refine wpList_append_src _ rfl _ _ 22 rfl w.heap.size 5 iB _ 1 1 Try.underlying22 hiB hB0 hB1 hB2 rfl (by decide) _ (k * 4) _ rfl HO3.out (some ⟨wr.heap.size + 1, 0, none⟩) 4 4 ((refX e1).map (Value.int .u8)) rfl rfl (reads_src HR3.out) (bytes_one _) (by simp only [maxLen]; omega) (by omega) HW3.out.size ?_
                         intro v' w4 o4 g4
                         have HO4 := Lib.hid o4
                         have HW4 := Lib.hid (HW3.out.grown g4 HW3.out.size (fun k e => (HO3.out.lt k e).1))
                         clear o4 g4)
            go_roundw
            case rel => exact ⟨k + 1, by omega, by go_num, by rw [HNext.out, ← refX_same e1 HMem.out (by omega) HGd.out, List.map_append, Nat.add_mul, Nat.one_mul]; exact HO4.out, HW4.out, HGood.out HGd.out⟩
            case measure => simp [intOf]; omega
        · have HGd := Lib.hid (show goodB e1 = false by simpa using hgd)
          have hd : entEq (decN (refX e1)).k (decN (refX e1)).t (decN (refX e1)).ok (decN (refX e1)).ov (decN (refX e1)).b e1.k e1.t e1.ok e1.ov e1.b = false := by
            rw [entEq_of, refX_dec e1 HMem.out (by omega)]
            exact HGd.out
          clear hgd
          go_region_with (go_at_call 14; refine HCD.out.mono ?_; rintro e w3 ⟨a3, n3, c3, rfl, s3, b3⟩; obtain rfl : n3 = 1 := s3.1.symm; obtain ⟨q3, o3, rfl, _, hat⟩ := s3.2 (by omega); obtain ⟨r0, r1, r2, r3, r4⟩ := hat 0 (by omega); simp only [Nat.zero_mul, Nat.add_zero, List.getD_cons_zero] at r0 r1 r2 r3 r4; have hbx := HBox.out.keep (w := W2.drew) b3 HBox.out.lt; have y0 := hbx.c0; have y1 := hbx.c1; have y2 := hbx.c2; have y3 := hbx.c3; have y4 := hbx.c4; have HB3 := Lib.hid b3; clear b3 hbx hat s3)
          all_goals
            clear z0 z1 z2 z3 z4 y0 y1 y2 y3 y4 r0 r1 r2 r3 r4 HCD
            have HW3 := Lib.hid (HE.out.2.1.trans ((HB2.out.mono HE.out.2.1.size).trans ((below_drewN (Below.refl _ W2) 1).trans (HB3.out.mono (Nat.le_trans HE.out.2.1.size HB2.out.size)))))
            go_wp2
            go_ret2
            exact .inr ⟨HBad.out HGd.out, rfl, HW3.out⟩
      · by_cases h4 : 3 < e1.k
        · have k3 := beq_eq_false_iff_ne.2 h3
          have kd : decide (3 < e1.k) = true := by simp; omega
          have HX := Lib.hid (show refX e1 = [e1.k, e1.t % 256, e1.ok, e1.ov % 256] by simp [refX, h3])
          have HGd := Lib.hid (great_bad e1 h4)
          clear h3
          go_upto_region 9 with (fail)
          have HRd := Lib.hid (show Reads .u8 _ _ 4 (refX e1) by rw [HX.out]; exact reads_four (wr.alloc (.cells #[.int .u8 e1.k, .int .i64 e1.t, .int .u8 e1.ok, .int .i32 e1.ov, .int .u8 e1.b] 46)) e1.k (e1.t % 256) e1.ok (e1.ov % 256))
          have HBox := Lib.hid ((EBox.new wr e1).alloc (.cells #[.int .u8 e1.k, .int .u8 (e1.t % 256), .int .u8 e1.ok, .int .u8 (e1.ov % 256)] 5))
          have HB2 := Lib.hid (((Below.refl wr.heap.size wr).alloc (Nat.le_refl _) (.cells #[.int .u8 e1.k, .int .i64 e1.t, .int .u8 e1.ok, .int .i32 e1.ov, .int .u8 e1.b] 46)).alloc (by simp) (.cells #[.int .u8 e1.k, .int .u8 (e1.t % 256), .int .u8 e1.ok, .int .u8 (e1.ov % 256)] 5))
          rw [World.size_alloc] at HRd
          generalize (wr.alloc (.cells #[.int .u8 e1.k, .int .i64 e1.t, .int .u8 e1.ok, .int .i32 e1.ov, .int .u8 e1.b] 46)).alloc (.cells #[.int .u8 e1.k, .int .u8 (e1.t % 256), .int .u8 e1.ok, .int .u8 (e1.ov % 256)] 5) = W2 at *
          have HCD := Lib.hid (refDecode W2.drew (some ⟨wr.heap.size + 1, 0, none⟩) 4 4 (refX e1) HRd.out HXb.out (by omega))
          rw [HDL.out] at HCD
          have z0 : W2.drew.cell? ⟨wr.heap.size, 0, none⟩ = some (.int .u8 e1.k) := HBox.out.c0
          have z1 : W2.drew.cell? ⟨wr.heap.size, 1, none⟩ = some (.int .i64 e1.t) := HBox.out.c1
          have z2 : W2.drew.cell? ⟨wr.heap.size, 2, none⟩ = some (.int .u8 e1.ok) := HBox.out.c2
          have z3 : W2.drew.cell? ⟨wr.heap.size, 3, none⟩ = some (.int .i32 e1.ov) := HBox.out.c3
          have z4 : W2.drew.cell? ⟨wr.heap.size, 4, none⟩ = some (.int .u8 e1.b) := HBox.out.c4
          clear c1 c2 c3 c4 c5
          have hq := @eqEnt
          have v0 := HBox.out.c0
          clear z0 z1 z2 z3 z4
          go_quiet (fail)
          have HW3 := Lib.hid (below_drewN (HE.out.2.1.trans (HB2.out.mono HE.out.2.1.size)) nq)
          go_wp2
          go_ret2
          exact .inr ⟨HBad.out HGd.out, rfl, HW3.out⟩
        · have k3 := beq_eq_false_iff_ne.2 h3
          have kd : decide (3 < e1.k) = false := by simp; omega
          have HX := Lib.hid (show refX e1 = [e1.k, e1.t % 256, e1.ok, e1.ov % 256] by simp [refX, h3])
          have h3' : e1.k ≤ 3 := by omega
          clear h3
          go_upto_region 9 with (fail)
          have HRd := Lib.hid (show Reads .u8 _ _ 4 (refX e1) by rw [HX.out]; exact reads_four (wr.alloc (.cells #[.int .u8 e1.k, .int .i64 e1.t, .int .u8 e1.ok, .int .i32 e1.ov, .int .u8 e1.b] 46)) e1.k (e1.t % 256) e1.ok (e1.ov % 256))
          have HBox := Lib.hid ((EBox.new wr e1).alloc (.cells #[.int .u8 e1.k, .int .u8 (e1.t % 256), .int .u8 e1.ok, .int .u8 (e1.ov % 256)] 5))
          have HB2 := Lib.hid (((Below.refl wr.heap.size wr).alloc (Nat.le_refl _) (.cells #[.int .u8 e1.k, .int .i64 e1.t, .int .u8 e1.ok, .int .i32 e1.ov, .int .u8 e1.b] 46)).alloc (by simp) (.cells #[.int .u8 e1.k, .int .u8 (e1.t % 256), .int .u8 e1.ok, .int .u8 (e1.ov % 256)] 5))
          rw [World.size_alloc] at HRd
          generalize (wr.alloc (.cells #[.int .u8 e1.k, .int .i64 e1.t, .int .u8 e1.ok, .int .i32 e1.ov, .int .u8 e1.b] 46)).alloc (.cells #[.int .u8 e1.k, .int .u8 (e1.t % 256), .int .u8 e1.ok, .int .u8 (e1.ov % 256)] 5) = W2 at *
          have HCD := Lib.hid (refDecode W2.drew (some ⟨wr.heap.size + 1, 0, none⟩) 4 4 (refX e1) HRd.out HXb.out (by omega))
          rw [HDL.out] at HCD
          have z0 : W2.drew.cell? ⟨wr.heap.size, 0, none⟩ = some (.int .u8 e1.k) := HBox.out.c0
          have z1 : W2.drew.cell? ⟨wr.heap.size, 1, none⟩ = some (.int .i64 e1.t) := HBox.out.c1
          have z2 : W2.drew.cell? ⟨wr.heap.size, 2, none⟩ = some (.int .u8 e1.ok) := HBox.out.c2
          have z3 : W2.drew.cell? ⟨wr.heap.size, 3, none⟩ = some (.int .i32 e1.ov) := HBox.out.c3
          have z4 : W2.drew.cell? ⟨wr.heap.size, 4, none⟩ = some (.int .u8 e1.b) := HBox.out.c4
          clear c1 c2 c3 c4 c5
          have hq := @eqEnt
          by_cases hgd : goodB e1 = true
          · have HGd := Lib.hid hgd
            have hd : entEq (decN (refX e1)).k (decN (refX e1)).t (decN (refX e1)).ok (decN (refX e1)).ov (decN (refX e1)).b e1.k e1.t e1.ok e1.ov e1.b = true := by
              rw [entEq_of, refX_dec e1 HMem.out (by omega)]
              exact HGd.out
            clear hgd
            go_region_with (go_at_call 14; refine HCD.out.mono ?_; rintro e w3 ⟨a3, n3, c3, rfl, s3, b3⟩; obtain rfl : n3 = 1 := s3.1.symm; obtain ⟨q3, o3, rfl, _, hat⟩ := s3.2 (by omega); obtain ⟨r0, r1, r2, r3, r4⟩ := hat 0 (by omega); simp only [Nat.zero_mul, Nat.add_zero, List.getD_cons_zero] at r0 r1 r2 r3 r4; have hbx := HBox.out.keep (w := W2.drew) b3 HBox.out.lt; have y0 := hbx.c0; have y1 := hbx.c1; have y2 := hbx.c2; have y3 := hbx.c3; have y4 := hbx.c4; have HB3 := Lib.hid b3; clear b3 hbx hat s3)
            all_goals
              clear z0 z1 z2 z3 z4 y0 y1 y2 y3 y4 r0 r1 r2 r3 r4 HCD
              have HO3 := Lib.hid (own_below (own_below HE.out.1 HB2.out).drew HB3.out)
              have HR3 := Lib.hid (HRd.out.keep (w := W2.drew) HB3.out)
              have HW3 := Lib.hid (HE.out.2.1.trans ((HB2.out.mono HE.out.2.1.size).trans ((below_drewN (Below.refl _ W2) 1).trans (HB3.out.mono (Nat.le_trans HE.out.2.1.size HB2.out.size)))))
              go_wp2_with (at_builtin
                           refine wpList_append_src _ rfl _ _ 22 rfl w.heap.size 5 iB _ 1 1 Try.underlying22 hiB hB0 hB1 hB2 rfl (by decide) _ (k * 4) _ rfl HO3.out (some ⟨wr.heap.size + 1, 0, none⟩) 4 4 ((refX e1).map (Value.int .u8)) rfl rfl (reads_src HR3.out) (bytes_one _) (by simp only [maxLen]; omega) (by omega) HW3.out.size ?_
                           intro v' w4 o4 g4
                           have HO4 := Lib.hid o4
                           have HW4 := Lib.hid (HW3.out.grown g4 HW3.out.size (fun k e => (HO3.out.lt k e).1))
                           clear o4 g4)
              go_roundw
              case rel => exact ⟨k + 1, by omega, by go_num, by rw [HNext.out, ← refX_same e1 HMem.out (by omega) HGd.out, List.map_append, Nat.add_mul, Nat.one_mul]; exact HO4.out, HW4.out, HGood.out HGd.out⟩
              case measure => simp [intOf]; omega
          · have HGd := Lib.hid (show goodB e1 = false by simpa using hgd)
            have hd : entEq (decN (refX e1)).k (decN (refX e1)).t (decN (refX e1)).ok (decN (refX e1)).ov (decN (refX e1)).b e1.k e1.t e1.ok e1.ov e1.b = false := by
              rw [entEq_of, refX_dec e1 HMem.out (by omega)]
              exact HGd.out
            clear hgd
            go_region_with (go_at_call 14; refine HCD.out.mono ?_; rintro e w3 ⟨a3, n3, c3, rfl, s3, b3⟩; obtain rfl : n3 = 1 := s3.1.symm; obtain ⟨q3, o3, rfl, _, hat⟩ := s3.2 (by omega); obtain ⟨r0, r1, r2, r3, r4⟩ := hat 0 (by omega); simp only [Nat.zero_mul, Nat.add_zero, List.getD_cons_zero] at r0 r1 r2 r3 r4; have hbx := HBox.out.keep (w := W2.drew) b3 HBox.out.lt; have y0 := hbx.c0; have y1 := hbx.c1; have y2 := hbx.c2; have y3 := hbx.c3; have y4 := hbx.c4; have HB3 := Lib.hid b3; clear b3 hbx hat s3)
            all_goals
              clear z0 z1 z2 z3 z4 y0 y1 y2 y3 y4 r0 r1 r2 r3 r4 HCD
              have HW3 := Lib.hid (HE.out.2.1.trans ((HB2.out.mono HE.out.2.1.size).trans ((below_drewN (Below.refl _ W2) 1).trans (HB3.out.mono (Nat.le_trans HE.out.2.1.size HB2.out.size)))))
              go_wp2
              go_ret2
              exact .inr ⟨HBad.out HGd.out, rfl, HW3.out⟩
    · obtain rfl : k = n := by omega
      obtain ⟨ao, cap, hv, hrd, hle⟩ := bytes_own HE.out.1
      subst hv
      have HRd := Lib.hid hrd
      have HLe := Lib.hid hle
      clear hrd hle
      go_wp2
      go_ret2
      have ht : es.take k = es := List.take_of_length_le (by rw [HL.out]; exact Nat.le_refl _)
      refine .inl ⟨by have := HE.out.2.2; rw [ht] at this; exact this, ao, cap, by rw [HL.out]; rfl, by rw [HL.out]; have := HRd.out; rw [ht] at this; exact this, by rw [HL.out]; exact HLe.out, HE.out.2.1⟩

end Go.Proofs.Ytblkkafilabbkaa
