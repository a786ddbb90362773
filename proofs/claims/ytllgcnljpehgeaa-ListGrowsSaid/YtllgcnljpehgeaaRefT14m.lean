/-
  What the document's own Sound (package reaperref14) tells. Conditions: at most 900 cells.
-/
import Derived.Test.YtllgcnljpehgeaaRefR14m
import Derived.Deep.RegionHeld3
import Derived.Deep.CutRange
namespace Go.Proofs.Ytllgcnljpehgeaa.M2
open Go.RowKit

section
variable {w : World} {B : Nat} {u : Value} {size : Int} {zs : List Int} {st : Int} {ps : List Nat} {lost : Bool}

/-- Whether one of the first k records is on the list and not active. -/
def idleR (zs : List Int) (ps : List Nat) (k : Nat) : Bool := (List.range k).any (fun j => decide (zs.getD (3 + 5 * j + 1) 0 = 0) && decide (3 + 5 * j ∈ ps))
theorem idleR_next (zs : List Int) (ps : List Nat) (k : Nat) : idleR zs ps (k + 1) = (idleR zs ps k || (decide (zs.getD (3 + 5 * k + 1) 0 = 0) && decide (3 + 5 * k ∈ ps))) := by
  unfold idleR
  rw [List.range_succ, List.any_append]
  simp
theorem idleR_yes {zs : List Int} {ps : List Nat} {k n : Nat} (h1 : zs.getD (3 + 5 * k + 1) 0 = 0) (h2 : 3 + 5 * k ∈ ps) (hk : k < n) : idleR zs ps n = true := by
  unfold idleR
  rw [List.any_eq_true]
  exact ⟨k, by simpa using hk, by simp only [h1, h2, decide_true, Bool.and_self]⟩
theorem idle_eq (hP : Path zs ps lost) : idleK zs ps ps.length = idleR zs ps (mn zs.length) := by
  have h1 : idleK zs ps ps.length = true ↔ idleR zs ps (mn zs.length) = true := by
    unfold idleK idleR
    rw [List.take_length, List.any_eq_true, List.any_eq_true]
    constructor
    · rintro ⟨a, ha, he⟩
      obtain ⟨k, hk, e⟩ := List.mem_iff_getElem.1 ha
      obtain ⟨j, hj, e2⟩ := hP.isr k hk
      have e3 : a = 3 + 5 * j := by rw [← e2, ← e]; simp [List.getD, hk]
      subst e3
      exact ⟨j, by simpa using hj, by rw [Bool.and_eq_true]; exact ⟨he, decide_eq_true ha⟩⟩
    · rintro ⟨j, _, he⟩
      rw [Bool.and_eq_true] at he
      exact ⟨3 + 5 * j, of_decide_eq_true he.2, he.1⟩
  cases hx : idleK zs ps ps.length <;> cases hy : idleR zs ps (mn zs.length) <;> simp_all
theorem mem_ints (ps : List Nat) (j : Nat) : (3 + 5 * (j : Int)) ∈ ints ps ↔ 3 + 5 * j ∈ ps := by
  unfold ints
  rw [List.mem_map]
  constructor
  · rintro ⟨a, ha, e⟩
    have : a = 3 + 5 * j := by omega
    rw [← this]; exact ha
  · intro h
    exact ⟨_, h, by omega⟩

/-- What holds at each round's head. -/
def SoundRel (w w1 : World) (size : Int) (u : Value) (st : Int) (NN : Nat) (P : Nat → Prop) (i : Value) (wr : World) : Prop :=
  ∃ k : Nat, k ≤ NN ∧ i = .int .i64 k ∧ Boxed wr w.heap.size (.int .i64 size) u (.int .i64 st) ∧ Below w.heap.size w wr ∧ Below w1.heap.size w1 wr ∧ P k

set_option maxRecDepth 100000 in
set_option maxHeartbeats 8000000 in
theorem refSound (h : w.ownsRow B 2 1 u zs.length (zs.map (Value.int .i64))) (hl : zs.length ≤ 900) (hP : Path zs ps lost) :
    Calls Try.prog 32 #[.agg #[.int .i64 size, u, .int .i64 st]] w fun e w' => e = .returned (.int .i64 (soundV zs ps lost)) ∧ Below w.heap.size w w' := by
  have HMX := Lib.hid (show mn zs.length ≤ 200 by unfold mn; omega)
  have HPL := Lib.hid (show ps.length ≤ 200 by have := hP.len; unfold mn at this; omega)
  have HSI := Lib.hid (fun (W : World) (hb : Below w.heap.size w W) (j : Nat) (hj : j < mn zs.length) => refSeeIn (size := size) (st := st) (own_keep h hb) (by omega) j hj)
  have HRC := Lib.hid (fun (W : World) (hb : Below w.heap.size w W) => refReach (size := size) (st := st) (own_keep h hb) hl hP)
  have HRD := Lib.hid (fun (W : World) (hb : Below w.heap.size w W) => refRecords (size := size) (st := st) (own_keep h hb) (by omega))
  have HIE := Lib.hid (idle_eq hP)
  obtain ⟨ao, cap, rfl⟩ := ownShape h
  obtain ⟨W0, hW0⟩ : ∃ W, w.alloc (.cells #[.int .i64 size, .slice ao zs.length cap, .int .i64 st] 33) = W := ⟨_, rfl⟩
  have HR0 := Lib.hid (show RO w 0 size (.slice ao zs.length cap) st (.slice none 0 0) [] W0 by subst hW0; exact RO.new _ _ _ _ _)
  have C := HRC.out W0 HR0.out.2.2
  have HW0 := Lib.hid hW0
  have c0 := HR0.out.1.c0
  have c1 := HR0.out.1.c1
  have c2 := HR0.out.1.c2
  clear h hl hW0 HRC hP
  obtain ⟨NN, hNN⟩ : ∃ N, mn zs.length = N := ⟨_, rfl⟩
  have HSV := Lib.hid (show soundV zs ps lost = if lost then 30 else if idleR zs ps NN then 33 else if goneK zs ps NN then 31 else 0 by unfold soundV; rw [HIE.out, hNN])
  generalize hn : zs.length = n at *
  rw [hNN] at HMX HSI HRD
  clear hn hNN HIE
  go_enter Try.func32, Try.ntmps32
  go_wp2_with fail
  rw [HW0.out]
  refine C.mono ?_
  clear C c0 c1 c2 HW0
  rintro e w0 ⟨v, rfl, la, lc, rfl, hlr, b1⟩
  have HR1 := Lib.hid (HR0.out.fresh b1)
  clear HR0 b1
  cases lost with
  | true =>
    clear hlr
    simp only [if_true, List.length_nil, Bool.not_true]
    go_wp2
    go_ret
    exact ⟨by rw [HSV.out]; rfl, HR1.out.2.2⟩
  | false =>
    simp only [Bool.false_eq_true, if_false, ints_len, Bool.not_false]
    simp only [Bool.false_eq_true, if_false, ints_len] at hlr
    have C := HRD.out w0 HR1.out.2.2
    have HLR := Lib.hid hlr
    have c0 := HR1.out.1.c0
    have c1 := HR1.out.1.c1
    have c2 := HR1.out.1.c2
    clear hlr HRD
    go_wp2_with fail
    refine C.mono ?_
    clear C c0 c1 c2
    rintro e w1 ⟨v, rfl, ra, rc, rfl, hrr, b1⟩
    rw [recK_len]
    rw [recK_len] at hrr
    have HR2 := Lib.hid (HR1.out.fresh b1)
    have HLL := Lib.hid (HLR.out.keep b1)
    have HRR := Lib.hid hrr
    clear hrr b1 HR1 HLR
    go_wp2
    go_loopw [6] (fun i wr => SoundRel w w1 size (.slice ao n cap) st NN (fun k => idleR zs ps k = false) i wr) (fun i _ => NN - (intOf i).toNat)
    case atStart => exact ⟨0, Nat.zero_le _, rfl, HR2.out.1, HR2.out.2.2, Below.refl _ _, rfl⟩
    case round =>
      obtain ⟨k, hk, rfl, hX, hB, hb, hI⟩ := hrel
      have HX := Lib.hid hX
      have HB := Lib.hid hB
      have HBe := Lib.hid hb
      have HI := Lib.hid hI
      clear hX hB hb hI HR2
      by_cases hlt : k < NN
      · obtain ⟨lb, lo, hra, llt, hc⟩ := (HRR.out.keep HBe.out).2 (by omega)
        subst hra
        have c3 := hc k hlt
        rw [show (recK NN).getD k 0 = 3 + 5 * (k : Int) by simp [recK, List.getD, hlt]] at c3
        have c0 := HX.out.c0
        have c1 := HX.out.c1
        have c2 := HX.out.c2
        have hnx := idleR_next zs ps k
        have hyes := fun h1 h2 => @idleR_yes zs ps k NN h1 h2 hlt
        have hsee := fun (W : World) (hb : Below wr.heap.size wr W) => HSI.out W (HB.out.trans (hb.mono HB.out.size)) k hlt
        have hmem := mem_ints ps k
        obtain ⟨a, ha⟩ : ∃ a : Int, 3 + 5 * (k : Int) = a := ⟨_, rfl⟩
        rw [ha] at c3 hsee hmem
        have HKE := Lib.hid (fun (W : World) (hb : Below wr.heap.size wr W) => And.intro (HX.out.keep hb).c0 (And.intro (HX.out.keep hb).c1 (And.intro (HX.out.keep hb).c2 ((hb.cell (p := ⟨lb, lo + k, none⟩) llt).trans c3))))
        generalize zs.getD (3 + 5 * k) 0 = z0 at *
        generalize zs.getD (3 + 5 * k + 1) 0 = z1 at *
        generalize zs.getD (3 + 5 * k + 2) 0 = z2 at *
        generalize zs.getD (3 + 5 * k + 3) 0 = z3 at *
        generalize zs.getD (3 + 5 * k + 4) 0 = z4 at *
        have HSee := Lib.hid hsee
        have HNX := Lib.hid hnx
        have HY := Lib.hid hyes
        have HMem := Lib.hid hmem
        have HLT := Lib.hid hlt
        have k0 : (k : Int) < NN := by omega
        have k2 : (k : Int) ≤ 200 := by have := HMX.out; omega
        clear hyes hnx hsee ha hk hc hlt hmem
        go_upto_region 8 with (fail)
        go_cut [7, 8] from 27 to 35 (fun d x wx => ∃ N : Nat, d = .pointer (some ⟨N, 0, none⟩) ∧ x = .bool true ∧ Hid (B5 wx N 76 z0 z1 z2 z3 z4 ∧ Below wr.heap.size wr wx))
        case first =>
          have HCA := Lib.hid (HSee.out wr.drew (Below.refl _ _).drew)
          have HCB := Lib.hid (HSee.out (wr.drew.alloc (.cells #[.int .i64 0, .int .i64 0, .int .i64 0, .int .i64 0, .int .i64 0] 76)) ((Below.refl wr.heap.size wr).drew.alloc (Nat.le_refl _) _))
          have d0 := (HKE.out wr.drew (Below.refl _ _).drew).1
          have d1 := (HKE.out wr.drew (Below.refl _ _).drew).2.1
          have d2 := (HKE.out wr.drew (Below.refl _ _).drew).2.2.1
          have d3 := (HKE.out wr.drew (Below.refl _ _).drew).2.2.2
          have hq := HKE.out ((wr.alloc (.cells #[.int .i64 0, .int .i64 0, .int .i64 0, .int .i64 0, .int .i64 0] 76)).drew) ((Below.refl wr.heap.size wr).alloc (Nat.le_refl _) _).drew
          have q0 := hq.1
          have q1 := hq.2.1
          have q2 := hq.2.2.1
          have q3 := hq.2.2.2
          clear hq HSee
          go_wp2
          go_region_held3 (fun w' => w'.cell? ⟨w.heap.size, 0, none⟩ = some (.int .i64 size) ∧ w'.cell? ⟨w.heap.size, 1, none⟩ = some (.slice ao n cap) ∧ w'.cell? ⟨w.heap.size, 2, none⟩ = some (.int .i64 st) ∧ w'.cell? ⟨lb, lo + k, none⟩ = some (.int .i64 a)) (((try dsimp only); first
            | with_reducible exact ⟨c0, c1, c2, c3⟩ | with_reducible exact ⟨d0, d1, d2, d3⟩ | with_reducible exact ⟨q0, q1, q2, q3⟩ | with_reducible exact ⟨x0, x1, x2, x3⟩ | with_reducible exact ⟨v0, v1, v2, v3⟩ | with_reducible exact ⟨s0, s1, s2, s3⟩ | with_reducible exact ⟨p0, p1, p2, p3⟩))
            ((go_at_call 52; first
            | (refine HCA.out.mono ?_; rintro e w5 ⟨rfl, b5⟩
               have hb := (Below.refl wr.heap.size wr).drew.trans (b5.mono (Nat.le_refl wr.heap.size))
               have hx := HKE.out w5 hb
               have x0 := hx.1
               have x1 := hx.2.1
               have x2 := hx.2.2.1
               have x3 := hx.2.2.2
               have hv := HKE.out (w5.alloc (.cells #[.int .i64 0, .int .i64 0, .int .i64 0, .int .i64 0, .int .i64 0] 76)) (hb.alloc hb.size _)
               have v0 := hv.1
               have v1 := hv.2.1
               have v2 := hv.2.2.1
               have v3 := hv.2.2.2
               have hs := HKE.out (w5.alloc (.cells #[.int .i64 z0, .int .i64 z1, .int .i64 z2, .int .i64 z3, .int .i64 z4] 76)) (hb.alloc hb.size _)
               have s0 := hs.1
               have s1 := hs.2.1
               have s2 := hs.2.2.1
               have s3 := hs.2.2.2
               have HF := Lib.hid (And.intro (B5.new w5 76 z0 z1 z2 z3 z4) (hb.alloc hb.size (.cells #[.int .i64 z0, .int .i64 z1, .int .i64 z2, .int .i64 z3, .int .i64 z4] 76)))
               clear b5 hx hv hs hb)
            | (refine HCB.out.mono ?_; rintro e w5 ⟨rfl, b5⟩
               have hb := ((Below.refl wr.heap.size wr).drew.alloc (Nat.le_refl _) (.cells #[.int .i64 0, .int .i64 0, .int .i64 0, .int .i64 0, .int .i64 0] 76)).trans (b5.mono (by simp))
               have hx := HKE.out w5 hb
               have x0 := hx.1
               have x1 := hx.2.1
               have x2 := hx.2.2.1
               have x3 := hx.2.2.2
               have hz := (B5.new wr.drew 76 0 0 0 0 0).keep b5
               have y0 : w5.cell? ⟨wr.heap.size, 0, none⟩ = _ := hz.c0
               have y1 : w5.cell? ⟨wr.heap.size, 1, none⟩ = _ := hz.c1
               have y2 : w5.cell? ⟨wr.heap.size, 2, none⟩ = _ := hz.c2
               have y3 : w5.cell? ⟨wr.heap.size, 3, none⟩ = _ := hz.c3
               have y4 : w5.cell? ⟨wr.heap.size, 4, none⟩ = _ := hz.c4
               have yf : ∀ o, w5.frozen? ⟨wr.heap.size, o, none⟩ = false := hz.f
               have hs5 := ((((hb.setCell (p := ⟨wr.heap.size, 0, none⟩) (Nat.le_refl _) (.int .i64 z0)).setCell (p := ⟨wr.heap.size, 1, none⟩) (Nat.le_refl _) (.int .i64 z1)).setCell (p := ⟨wr.heap.size, 2, none⟩) (Nat.le_refl _) (.int .i64 z2)).setCell (p := ⟨wr.heap.size, 3, none⟩) (Nat.le_refl _) (.int .i64 z3)).setCell (p := ⟨wr.heap.size, 4, none⟩) (Nat.le_refl _) (.int .i64 z4)
               have hs := HKE.out _ hs5
               have p0 := hs.1
               have p1 := hs.2.1
               have p2 := hs.2.2.1
               have p3 := hs.2.2.2
               have HF := Lib.hid (And.intro (hz.set5 z0 z1 z2 z3 z4) hs5)
               clear b5 hx hs hs5 hz hb)))
          all_goals
            go_wp2
            go_meet
            exact ⟨_, rfl, rfl, HF⟩
        case' rest => skip
        obtain ⟨N, rfl, rfl, HF⟩ := hcut
        have r1 := HF.out.1.c1
        have HX2 := Lib.hid (HX.out.keep HF.out.2)
        have HB2 := Lib.hid (HB.out.trans (HF.out.2.mono HB.out.size))
        have HBC := Lib.hid (HBe.out.trans (HF.out.2.mono HBe.out.size))
        have e3 := (HKE.out wc HF.out.2).2.2.2
        have C := refPlace wc la ps.length lc (ints ps) (HLL.out.keep HBC.out) (by have := HPL.out; omega) a
        clear c0 c1 c2 c3 HKE HSee HX HB HBe HF
        by_cases hz : z1 = 0
        · subst hz
          go_wp2_with fail
          refine C.mono ?_
          clear C e3 r1
          rintro e w5 ⟨i, rfl, hi0, hi1, hi2, b5⟩
          by_cases hm : 3 + 5 * k ∈ ps
          · have i1 := hi1 (HMem.out.2 hm)
            have HE := Lib.hid (HY.out trivial hm)
            have HB5 := Lib.hid (HB2.out.trans (b5.mono HB2.out.size))
            clear hi0 hi1 hi2 b5 hm
            go_wp2
            go_ret
            exact ⟨by rw [HSV.out, HE.out]; rfl, HB5.out⟩
          · obtain rfl := hi2 (fun h => hm (HMem.out.1 h))
            have HE := Lib.hid (show idleR zs ps (k + 1) = false by rw [HNX.out, HI.out]; simp [hm])
            have HX5 := Lib.hid (HX2.out.keep b5)
            have HB5 := Lib.hid (HB2.out.trans (b5.mono HB2.out.size))
            have HC5 := Lib.hid (HBC.out.trans (b5.mono HBC.out.size))
            clear hi0 hi1 hi2 b5 hm
            go_wp2
            go_roundw
            case rel => exact ⟨k + 1, HLT.out, by go_num, HX5.out, HB5.out, HC5.out, HE.out⟩
            case measure => have := HLT.out; simp [intOf]; omega
        · have HE := Lib.hid (show idleR zs ps (k + 1) = false by rw [HNX.out, HI.out]; simp [hz])
          have hz : (z1 == 0) = false := by simpa using hz
          clear C
          go_wp2
          go_roundw
          case rel => exact ⟨k + 1, HLT.out, by go_num, HX2.out, HB2.out, HBC.out, HE.out⟩
          case measure => have := HLT.out; simp [intOf]; omega
      · have hkn : NN = k := by omega
        subst hkn
        clear hlt hk
        go_wp2
        go_loopw [9] (fun i wr => SoundRel w w1 size (.slice ao n cap) st NN (fun k => goneK zs ps k = false) i wr) (fun i _ => NN - (intOf i).toNat)
        case atStart => exact ⟨0, Nat.zero_le _, rfl, HX.out, HB.out, HBe.out, rfl⟩
        case round =>
          clear HX HB HBe
          obtain ⟨k, hk, rfl, hX, hB, hb, hG⟩ := hrel
          have HX := Lib.hid hX
          have HB := Lib.hid hB
          have HBe := Lib.hid hb
          have HG := Lib.hid hG
          clear hX hB hb hG
          by_cases hlt : k < NN
          · obtain ⟨lb, lo, hra, llt, hc⟩ := (HRR.out.keep HBe.out).2 (by omega)
            subst hra
            have c3 := hc k hlt
            rw [show (recK NN).getD k 0 = 3 + 5 * (k : Int) by simp [recK, List.getD, hlt]] at c3
            have c0 := HX.out.c0
            have c1 := HX.out.c1
            have c2 := HX.out.c2
            have hgn := goneK_next zs ps k
            have hgy := @goneK_yes zs ps k NN
            have hgb : goneB zs ps k = (!decide (3 + 5 * k ∈ ps) && (decide (zs.getD (3 + 5 * k + 1) 0 = 1) && !decide (zs.getD (3 + 5 * k) 0 = -1))) := rfl
            have hsee := fun (W : World) (hb : Below wr.heap.size wr W) => HSI.out W (HB.out.trans (hb.mono HB.out.size)) k hlt
            have hmem := mem_ints ps k
            obtain ⟨a, ha⟩ : ∃ a : Int, 3 + 5 * (k : Int) = a := ⟨_, rfl⟩
            rw [ha] at c3 hsee hmem
            have HKE := Lib.hid (fun (W : World) (hb : Below wr.heap.size wr W) => And.intro (HX.out.keep hb).c0 (And.intro (HX.out.keep hb).c1 (And.intro (HX.out.keep hb).c2 ((hb.cell (p := ⟨lb, lo + k, none⟩) llt).trans c3))))
            generalize zs.getD (3 + 5 * k) 0 = z0 at *
            generalize zs.getD (3 + 5 * k + 1) 0 = z1 at *
            generalize zs.getD (3 + 5 * k + 2) 0 = z2 at *
            generalize zs.getD (3 + 5 * k + 3) 0 = z3 at *
            generalize zs.getD (3 + 5 * k + 4) 0 = z4 at *
            have HSee := Lib.hid hsee
            have HGN := Lib.hid hgn
            have HGY := Lib.hid hgy
            have HGB := Lib.hid hgb
            have HMem := Lib.hid hmem
            have HLT := Lib.hid hlt
            have k0 : (k : Int) < NN := by omega
            have k2 : (k : Int) ≤ 200 := by have := HMX.out; omega
            clear hgn hgy hgb hsee ha hk hc hlt hmem
            go_upto_region 14 with (fail)
            go_cut [10, 11] from 54 to 62 (fun d x wx => ∃ N : Nat, d = .pointer (some ⟨N, 0, none⟩) ∧ x = .bool true ∧ Hid (B5 wx N 76 z0 z1 z2 z3 z4 ∧ Below wr.heap.size wr wx))
            case first =>
              have HCA := Lib.hid (HSee.out wr.drew (Below.refl _ _).drew)
              have HCB := Lib.hid (HSee.out (wr.drew.alloc (.cells #[.int .i64 0, .int .i64 0, .int .i64 0, .int .i64 0, .int .i64 0] 76)) ((Below.refl wr.heap.size wr).drew.alloc (Nat.le_refl _) _))
              have d0 := (HKE.out wr.drew (Below.refl _ _).drew).1
              have d1 := (HKE.out wr.drew (Below.refl _ _).drew).2.1
              have d2 := (HKE.out wr.drew (Below.refl _ _).drew).2.2.1
              have d3 := (HKE.out wr.drew (Below.refl _ _).drew).2.2.2
              have hq := HKE.out ((wr.alloc (.cells #[.int .i64 0, .int .i64 0, .int .i64 0, .int .i64 0, .int .i64 0] 76)).drew) ((Below.refl wr.heap.size wr).alloc (Nat.le_refl _) _).drew
              have q0 := hq.1
              have q1 := hq.2.1
              have q2 := hq.2.2.1
              have q3 := hq.2.2.2
              clear hq HSee
              go_wp2
              go_region_held3 (fun w' => w'.cell? ⟨w.heap.size, 0, none⟩ = some (.int .i64 size) ∧ w'.cell? ⟨w.heap.size, 1, none⟩ = some (.slice ao n cap) ∧ w'.cell? ⟨w.heap.size, 2, none⟩ = some (.int .i64 st) ∧ w'.cell? ⟨lb, lo + k, none⟩ = some (.int .i64 a)) (((try dsimp only); first
                | with_reducible exact ⟨c0, c1, c2, c3⟩ | with_reducible exact ⟨d0, d1, d2, d3⟩ | with_reducible exact ⟨q0, q1, q2, q3⟩ | with_reducible exact ⟨x0, x1, x2, x3⟩ | with_reducible exact ⟨v0, v1, v2, v3⟩ | with_reducible exact ⟨s0, s1, s2, s3⟩ | with_reducible exact ⟨p0, p1, p2, p3⟩))
                ((go_at_call 52; first
                | (refine HCA.out.mono ?_; rintro e w5 ⟨rfl, b5⟩
                   have hb := (Below.refl wr.heap.size wr).drew.trans (b5.mono (Nat.le_refl wr.heap.size))
                   have hx := HKE.out w5 hb
                   have x0 := hx.1
                   have x1 := hx.2.1
                   have x2 := hx.2.2.1
                   have x3 := hx.2.2.2
                   have hv := HKE.out (w5.alloc (.cells #[.int .i64 0, .int .i64 0, .int .i64 0, .int .i64 0, .int .i64 0] 76)) (hb.alloc hb.size _)
                   have v0 := hv.1
                   have v1 := hv.2.1
                   have v2 := hv.2.2.1
                   have v3 := hv.2.2.2
                   have hs := HKE.out (w5.alloc (.cells #[.int .i64 z0, .int .i64 z1, .int .i64 z2, .int .i64 z3, .int .i64 z4] 76)) (hb.alloc hb.size _)
                   have s0 := hs.1
                   have s1 := hs.2.1
                   have s2 := hs.2.2.1
                   have s3 := hs.2.2.2
                   have HF := Lib.hid (And.intro (B5.new w5 76 z0 z1 z2 z3 z4) (hb.alloc hb.size (.cells #[.int .i64 z0, .int .i64 z1, .int .i64 z2, .int .i64 z3, .int .i64 z4] 76)))
                   clear b5 hx hv hs hb)
                | (refine HCB.out.mono ?_; rintro e w5 ⟨rfl, b5⟩
                   have hb := ((Below.refl wr.heap.size wr).drew.alloc (Nat.le_refl _) (.cells #[.int .i64 0, .int .i64 0, .int .i64 0, .int .i64 0, .int .i64 0] 76)).trans (b5.mono (by simp))
                   have hx := HKE.out w5 hb
                   have x0 := hx.1
                   have x1 := hx.2.1
                   have x2 := hx.2.2.1
                   have x3 := hx.2.2.2
                   have hz := (B5.new wr.drew 76 0 0 0 0 0).keep b5
                   have y0 : w5.cell? ⟨wr.heap.size, 0, none⟩ = _ := hz.c0
                   have y1 : w5.cell? ⟨wr.heap.size, 1, none⟩ = _ := hz.c1
                   have y2 : w5.cell? ⟨wr.heap.size, 2, none⟩ = _ := hz.c2
                   have y3 : w5.cell? ⟨wr.heap.size, 3, none⟩ = _ := hz.c3
                   have y4 : w5.cell? ⟨wr.heap.size, 4, none⟩ = _ := hz.c4
                   have yf : ∀ o, w5.frozen? ⟨wr.heap.size, o, none⟩ = false := hz.f
                   have hs5 := ((((hb.setCell (p := ⟨wr.heap.size, 0, none⟩) (Nat.le_refl _) (.int .i64 z0)).setCell (p := ⟨wr.heap.size, 1, none⟩) (Nat.le_refl _) (.int .i64 z1)).setCell (p := ⟨wr.heap.size, 2, none⟩) (Nat.le_refl _) (.int .i64 z2)).setCell (p := ⟨wr.heap.size, 3, none⟩) (Nat.le_refl _) (.int .i64 z3)).setCell (p := ⟨wr.heap.size, 4, none⟩) (Nat.le_refl _) (.int .i64 z4)
                   have hs := HKE.out _ hs5
                   have p0 := hs.1
                   have p1 := hs.2.1
                   have p2 := hs.2.2.1
                   have p3 := hs.2.2.2
                   have HF := Lib.hid (And.intro (hz.set5 z0 z1 z2 z3 z4) hs5)
                   clear b5 hx hs hs5 hz hb)))
              all_goals
                go_wp2
                go_meet
                exact ⟨_, rfl, rfl, HF⟩
            case' rest => skip
            obtain ⟨N, rfl, rfl, HF⟩ := hcut
            have r1 := HF.out.1.c1
            have r0 := HF.out.1.c0
            have HX2 := Lib.hid (HX.out.keep HF.out.2)
            have HB2 := Lib.hid (HB.out.trans (HF.out.2.mono HB.out.size))
            have HBC := Lib.hid (HBe.out.trans (HF.out.2.mono HBe.out.size))
            have e3 := (HKE.out wc HF.out.2).2.2.2
            have C := refPlace wc la ps.length lc (ints ps) (HLL.out.keep HBC.out) (by have := HPL.out; omega) a
            have hgo : goneB zs ps k = false → goneK zs ps (k + 1) = false := fun h => by rw [HGN.out, HG.out, h]; rfl
            have HGO := Lib.hid hgo
            clear c0 c1 c2 c3 HKE HSee HX HB HBe HF hgo
            by_cases h1 : z1 = 1
            · by_cases h0 : z0 = -1
              · have HE := Lib.hid (HGO.out (by rw [HGB.out, h0]; simp))
                subst h0 h1
                clear C
                go_wp2
                go_roundw
                case rel => exact ⟨k + 1, HLT.out, by go_num, HX2.out, HB2.out, HBC.out, HE.out⟩
                case measure => have := HLT.out; simp [intOf]; omega
              · have H0 := Lib.hid h0
                have h0 : (z0 != -1) = true := by simpa using h0
                subst h1
                go_wp2_with fail
                refine C.mono ?_
                clear C e3 r1 r0
                rintro e w5 ⟨i, rfl, hi0, hi1, hi2, b5⟩
                by_cases hm : 3 + 5 * k ∈ ps
                · have i1 := hi1 (HMem.out.2 hm)
                  have HE := Lib.hid (HGO.out (by rw [HGB.out]; simp [hm]))
                  have HX5 := Lib.hid (HX2.out.keep b5)
                  have HB5 := Lib.hid (HB2.out.trans (b5.mono HB2.out.size))
                  have HC5 := Lib.hid (HBC.out.trans (b5.mono HBC.out.size))
                  clear hi0 hi1 hi2 b5 hm
                  go_wp2
                  go_roundw
                  case rel => exact ⟨k + 1, HLT.out, by go_num, HX5.out, HB5.out, HC5.out, HE.out⟩
                  case measure => have := HLT.out; simp [intOf]; omega
                · obtain rfl := hi2 (fun h => hm (HMem.out.1 h))
                  have HE := Lib.hid (HGY.out (by rw [HGB.out]; simp [hm, H0.out]) HLT.out)
                  have HB5 := Lib.hid (HB2.out.trans (b5.mono HB2.out.size))
                  clear hi0 hi1 hi2 b5 hm
                  go_wp2
                  go_ret
                  exact ⟨by rw [HSV.out, HI.out, HE.out]; rfl, HB5.out⟩
            · have HE := Lib.hid (HGO.out (by rw [HGB.out]; simp [h1]))
              have h1 : (z1 == 1) = false := by simpa using h1
              clear C
              go_wp2
              go_roundw
              case rel => exact ⟨k + 1, HLT.out, by go_num, HX2.out, HB2.out, HBC.out, HE.out⟩
              case measure => have := HLT.out; simp [intOf]; omega
          · have hkn : NN = k := by omega
            subst hkn
            clear hlt hk
            go_wp2
            go_ret
            exact ⟨by rw [HSV.out, HI.out, HG.out]; rfl, HB.out⟩
end

end Go.Proofs.Ytllgcnljpehgeaa.M2
