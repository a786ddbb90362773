/-
  What script.Encode tells of entries: four bytes for each, if each has bytes at all; if not, nothing and the error. Conditions: at most a thousand entries, each of numbers of their kinds.
-/
import Derived.Test.YtblkkafilabbkaaAppend
import Derived.Deep.RegionHeld3
namespace Go.Proofs.Ytblkkafilabbkaa
open Go.RowKit

/-- The entry of a list's first four bytes. -/
def decN (l : List Int) : Ent := dec (l.getD 0 0) (l.getD 1 0) (l.getD 2 0) (l.getD 3 0)
/-- Has an entry bytes? -/
def goodB (e : Ent) : Bool := decide (decN (nearL e) = e)
/-- The bytes of entries. -/
def encL (es : List Ent) : List Int := es.flatMap nearL

theorem near_four (e : Ent) (h : e.ok') : ∃ x0 x1 x2 x3 : Int, nearL e = [x0, x1, x2, x3] ∧ (0 ≤ x0 ∧ x0 ≤ 255) ∧ (0 ≤ x1 ∧ x1 ≤ 255) ∧ (0 ≤ x2 ∧ x2 ≤ 255) ∧ (0 ≤ x3 ∧ x3 ≤ 255) := by
  obtain ⟨h1, h2, h3, h4, h5⟩ := h
  unfold nearL
  split
  · exact ⟨_, _, _, _, rfl, by omega, by omega, h3, by omega⟩
  · split
    · exact ⟨_, _, _, _, rfl, by omega, by omega, by omega, by omega⟩
    · split
      · exact ⟨_, _, _, _, rfl, by omega, by omega, by omega, h5⟩
      · exact ⟨_, _, _, _, rfl, by omega, by omega, by omega, by omega⟩

theorem near_length (e : Ent) : (nearL e).length = 4 := by unfold nearL; split <;> (try split) <;> (try split) <;> rfl
theorem encL_length (es : List Ent) : (encL es).length = es.length * 4 := by
  induction es with
  | nil => rfl
  | cons e es ih => simp only [encL, List.flatMap_cons, List.length_append, List.length_cons] at *; rw [ih, near_length]; omega
theorem encL_next (es : List Ent) (k : Nat) (h : k < es.length) : encL (es.take (k + 1)) = encL (es.take k) ++ nearL (es.getD k default) := by
  rw [take_next es k h]; simp [encL]

/-- What Encode tells. -/
def EncPost (w : World) (es : List Ent) (e : Ending) (w' : World) : Prop :=
  (es.all goodB = true ∧ ∃ ao cap, e = .returned (.tuple #[.slice ao (es.length * 4) cap, .int .u16 0]) ∧ Reads .u8 w' ao (es.length * 4) (encL es) ∧ es.length * 4 ≤ cap ∧ Below w.heap.size w w') ∨
  (es.all goodB = false ∧ e = .returned (.tuple #[.slice none 0 0, .int .u16 1]) ∧ Below w.heap.size w w')

/-- The bytes of the first k entries in a row of one's own. -/
def Encd (w : World) (es : List Ent) (k : Nat) (v : Value) (wr : World) : Prop :=
  wr.ownsRow w.heap.size 5 1 v (k * 4) ((encL (es.take k)).map (Value.int .u8)) ∧ Below w.heap.size w wr ∧ (es.take k).all goodB = true

theorem all_false {es : List Ent} {k : Nat} (h : k < es.length) (hb : goodB (es.getD k default) = false) : es.all goodB = false := by
  rw [List.all_eq_false]
  refine ⟨es.getD k default, ?_, by rw [hb]; simp⟩
  rw [show es.getD k default = es[k] by simp [List.getD, h]]
  exact List.getElem_mem h

theorem all_next {es : List Ent} {k : Nat} (h : k < es.length) (h1 : (es.take k).all goodB = true) (hb : goodB (es.getD k default) = true) : (es.take (k + 1)).all goodB = true := by
  rw [take_next es k h, List.all_append, h1]
  simp only [List.all_cons, List.all_nil, Bool.and_true, Bool.true_and]
  exact hb

set_option maxRecDepth 100000 in
set_option maxHeartbeats 4000000 in
theorem encodeAny (w : World) (a : Option Addr) (n c : Nat) (es : List Ent) (h : Ents w a n es) (hok : ∀ e ∈ es, e.ok') (hn : n ≤ 1000) :
    Calls Try.prog 10 #[.slice a n c] w (EncPost w es) := by
  obtain ⟨iB, hiB, hB0, hB1, hB2⟩ := info_parts infoB
  have HH := Lib.hid h
  have HL := Lib.hid h.1
  have HK := Lib.hid hok
  clear h hok
  have hm4 : (n : Int) * 4 ≤ 4000 := by omega
  go_enter Try.func10, Try.ntmps10
  go_wp2_with (at_make; refine wpList_make_own _ rfl _ _ 22 rfl w.heap.size 5 iB _ 1 Try.underlying22 hiB hB0 hB1 .i64 .i64 _ (n * 4) rfl rfl (by omega) (by rw [hB2]; omega) (by simp only [maxLen]; omega) (Nat.le_refl _) ?_; intro w1 hown1 hgrow1; have HO1 := Lib.hid hown1; have HG1 := Lib.hid hgrow1; clear hown1 hgrow1)
  have HS := Lib.hid (show Encd w es 0 (.slice (some ⟨w.heap.size, 0, none⟩) 0 (n * 4)) w1 from ⟨by simpa [encL] using HO1.out, (Below.refl _ w).grown HG1.out (Nat.le_refl _) (fun k e => by cases e), by simp⟩)
  clear HO1 HG1
  go_loopw [4, 14] (fun v i wr => ∃ k : Nat, k ≤ n ∧ i = .int .i64 k ∧ Encd w es k v wr) (fun _ i _ => n - (intOf i).toNat)
  case atStart => exact ⟨0, Nat.zero_le _, rfl, HS.out⟩
  case round =>
    obtain ⟨k, hk, rfl, hpk⟩ := hrel
    have HE := Lib.hid hpk
    clear hpk HS
    by_cases hlt : k < n
    · obtain ⟨g1, o1, rfl, l1, h1⟩ := (HH.out.keep HE.out.2.1).2 (by omega)
      obtain ⟨c1, c2, c3, c4, c5⟩ := h1 k hlt
      have HKL := Lib.hid (show k < es.length by rw [HL.out]; exact hlt)
      have HMem := Lib.hid (show (es.getD k default).ok' from HK.out _ (by rw [show es.getD k default = es[k]'HKL.out by simp [List.getD, HKL.out]]; exact List.getElem_mem _))
      have HNext := Lib.hid (encL_next es k HKL.out)
      have HGood := Lib.hid (show goodB (es.getD k default) = true → (es.take (k + 1)).all goodB = true from all_next HKL.out HE.out.2.2)
      have HBad := Lib.hid (show goodB (es.getD k default) = false → es.all goodB = false from all_false HKL.out)
      clear h1
      have i0 : (k : Int) < n := by omega
      generalize es.getD k default = e1 at *
      go_wp2_with fail
      refine (nearAny _ e1).mono ?_
      rintro e w2 ⟨g, rfl, hge, hrd, hb2⟩
      obtain ⟨x0, x1, x2, x3, hx, p0, p1, p2, p3⟩ := near_four e1 HMem.out
      have HX := Lib.hid hx
      rw [hx] at hrd
      have HRd := Lib.hid hrd
      have hb2' := ((Below.refl _ wr).alloc (Nat.le_refl _) _).trans (hb2.mono (by simp))
      have HB2 := Lib.hid hb2'
      have HBox := Lib.hid ((EBox.new wr e1).keep hb2 (by simp))
      obtain ⟨bb, oo, he, hgl, hcs⟩ := hrd.2 (by omega)
      simp only [Option.some.injEq, Addr.mk.injEq, and_true] at he
      obtain ⟨rfl, rfl⟩ := he
      have d0 : w2.drew.cell? ⟨g, 0, none⟩ = some (.int .u8 x0) := hcs 0 (by omega)
      have d1 : w2.drew.cell? ⟨g, 0 + 1, none⟩ = some (.int .u8 x1) := hcs 1 (by omega)
      have d2 : w2.drew.cell? ⟨g, 0 + 2, none⟩ = some (.int .u8 x2) := hcs 2 (by omega)
      have d3 : w2.drew.cell? ⟨g, 0 + 3, none⟩ = some (.int .u8 x3) := hcs 3 (by omega)
      have CE := entryAny w2.drew g 0 4 x0 x1 x2 x3 d0 d1 d2 d3 p1 p3
      have z0 : w2.drew.cell? ⟨wr.heap.size, 0, none⟩ = some (.int .u8 e1.k) := HBox.out.c0
      have z1 : w2.drew.cell? ⟨wr.heap.size, 1, none⟩ = some (.int .i64 e1.t) := HBox.out.c1
      have z2 : w2.drew.cell? ⟨wr.heap.size, 2, none⟩ = some (.int .u8 e1.ok) := HBox.out.c2
      have z3 : w2.drew.cell? ⟨wr.heap.size, 3, none⟩ = some (.int .i32 e1.ov) := HBox.out.c3
      have z4 : w2.drew.cell? ⟨wr.heap.size, 4, none⟩ = some (.int .u8 e1.b) := HBox.out.c4
      have HCE := Lib.hid CE
      clear d0 d1 d2 d3 CE hcs hrd hb2 hb2' hx c1 c2 c3 c4 c5 p0 p1 p2 p3 hgl hge
      have hq := @eqEnt
      by_cases hgd : goodB e1 = true
      · have HGd := Lib.hid hgd
        have hd : entEq (dec x0 x1 x2 x3).k (dec x0 x1 x2 x3).t (dec x0 x1 x2 x3).ok (dec x0 x1 x2 x3).ov (dec x0 x1 x2 x3).b e1.k e1.t e1.ok e1.ov e1.b = true := by
          rw [entEq_of]
          have := hgd
          rw [goodB, HX.out] at this
          exact this
        clear hgd
        go_upto_region 6 with (fail)
        go_region_held3 (fun w' => w'.cell? ⟨wr.heap.size, 0, none⟩ = some (.int .u8 e1.k) ∧ w'.cell? ⟨wr.heap.size, 1, none⟩ = some (.int .i64 e1.t) ∧ w'.cell? ⟨wr.heap.size, 2, none⟩ = some (.int .u8 e1.ok) ∧ w'.cell? ⟨wr.heap.size, 3, none⟩ = some (.int .i32 e1.ov) ∧ w'.cell? ⟨wr.heap.size, 4, none⟩ = some (.int .u8 e1.b)) (first | exact ⟨z0, z1, z2, z3, z4⟩ | exact ⟨y0, y1, y2, y3, y4⟩) (first
          | (go_at_call 22; refine HCE.out.mono ?_; rintro e w3 ⟨rfl, b3⟩; have hbx := HBox.out.keep (w := w2.drew) b3 HBox.out.lt; have y0 := hbx.c0; have y1 := hbx.c1; have y2 := hbx.c2; have y3 := hbx.c3; have y4 := hbx.c4; have HB3 := Lib.hid b3; clear b3 hbx))
        clear z0 z1 z2 z3 z4 y0 y1 y2 y3 y4 HCE
        have HO3 := Lib.hid (own_below (own_below HE.out.1 HB2.out).drew HB3.out)
        have HR3 := Lib.hid (HRd.out.keep (w := w2.drew) HB3.out)
        have HW3 := Lib.hid (HE.out.2.1.trans ((HB2.out.mono HE.out.2.1.size).trans ((below_drewN (Below.refl _ w2) 1).trans (HB3.out.mono (Nat.le_trans HE.out.2.1.size HB2.out.size)))))
        go_wp2_with (at_builtin
                     refine wpList_append_src _ rfl _ _ 22 rfl w.heap.size 5 iB _ 1 1 Try.underlying22 hiB hB0 hB1 hB2 rfl (by decide) _ (k * 4) _ rfl HO3.out (some ⟨g, 0, none⟩) 4 4 ([x0, x1, x2, x3].map (Value.int .u8)) rfl rfl (reads_src HR3.out) (bytes_one _) (by simp only [maxLen]; omega) (by omega) HW3.out.size ?_
                     intro v' w4 o4 g4
                     have HO4 := Lib.hid o4
                     have HW4 := Lib.hid (HW3.out.grown g4 HW3.out.size (fun k e => (HO3.out.lt k e).1))
                     clear o4 g4)
        go_roundw
        case rel => exact ⟨k + 1, by omega, by go_num, by rw [HNext.out, HX.out, List.map_append, Nat.add_mul, Nat.one_mul]; exact HO4.out, HW4.out, HGood.out HGd.out⟩
        case measure => simp [intOf]; omega
      · have HGd := Lib.hid (show goodB e1 = false by simpa using hgd)
        have hd : entEq (dec x0 x1 x2 x3).k (dec x0 x1 x2 x3).t (dec x0 x1 x2 x3).ok (dec x0 x1 x2 x3).ov (dec x0 x1 x2 x3).b e1.k e1.t e1.ok e1.ov e1.b = false := by
          rw [entEq_of]
          have := HGd.out
          rw [goodB, HX.out] at this
          exact this
        clear hgd
        go_upto_region 6 with (fail)
        go_region_held3 (fun w' => w'.cell? ⟨wr.heap.size, 0, none⟩ = some (.int .u8 e1.k) ∧ w'.cell? ⟨wr.heap.size, 1, none⟩ = some (.int .i64 e1.t) ∧ w'.cell? ⟨wr.heap.size, 2, none⟩ = some (.int .u8 e1.ok) ∧ w'.cell? ⟨wr.heap.size, 3, none⟩ = some (.int .i32 e1.ov) ∧ w'.cell? ⟨wr.heap.size, 4, none⟩ = some (.int .u8 e1.b)) (first | exact ⟨z0, z1, z2, z3, z4⟩ | exact ⟨y0, y1, y2, y3, y4⟩) (first
          | (go_at_call 22; refine HCE.out.mono ?_; rintro e w3 ⟨rfl, b3⟩; have hbx := HBox.out.keep (w := w2.drew) b3 HBox.out.lt; have y0 := hbx.c0; have y1 := hbx.c1; have y2 := hbx.c2; have y3 := hbx.c3; have y4 := hbx.c4; have HB3 := Lib.hid b3; clear b3 hbx))
        clear z0 z1 z2 z3 z4 y0 y1 y2 y3 y4 HCE
        have HW3 := Lib.hid (HE.out.2.1.trans ((HB2.out.mono HE.out.2.1.size).trans ((below_drewN (Below.refl _ w2) 1).trans (HB3.out.mono (Nat.le_trans HE.out.2.1.size HB2.out.size)))))
        go_wp2
        go_ret2
        exact .inr ⟨HBad.out HGd.out, rfl, HW3.out⟩
    · obtain rfl : k = n := by omega
      obtain ⟨ao, cap, hv, hrd, hle⟩ := bytes_own HE.out.1
      subst hv
      have HRd := Lib.hid hrd
      have HLe := Lib.hid hle
      clear hrd hle
      go_wp2
      go_ret2
      have ht : es.take k = es := List.take_of_length_le (by rw [HL.out]; exact Nat.le_refl _)
      refine .inl ⟨by have := HE.out.2.2; rw [ht] at this; exact this, ao, cap, by rw [HL.out]; rfl, by rw [HL.out]; have := HRd.out; rw [ht] at this; exact this, by rw [HL.out]; exact HLe.out, HE.out.2.1⟩

end Go.Proofs.Ytblkkafilabbkaa
