/-
  Two memories apart, one of them made behind the other; what came ahead of them. Conditions: none. Swept again nothing more goes; with a greater age no more go; two memories and blocks apart of them. Conditions: none. Who is left by a sweep, one by one; a number more that is asked; nobody is idle for long behind it. Conditions: none. What the document's own Stale (package reaperref14) tells, its list as a row of int. Conditions: at most 900 cells.
-/
import Derived.Test.YtfnjbbokbdddpaaG0717
import Derived.Test.YtfnjbbokbdddpaaKno17m
import Derived.Test.YtfnjbbokbdddpaaG0517
import Derived.Test.YtfnjbbokbdddpaaG0617
import Derived.Deep.RegionHeld3
import Derived.Deep.CutRange
namespace Go.Proofs.Ytfnjbbokbdddpaa.M2
open Go.RowKit

section
variable {w w' : World} {N N2 q p : Nat} {vc r : Value} {size size2 : Int} {zs ys : List Int} {st st2 : Int}
end

theorem VR.readsW {W : World} {g : Nat} {vs : List Int} (h : VR W g vs) : Reads .i64 W (some ⟨g, 0, none⟩) vs.length vs :=
  ⟨rfl, fun _ => ⟨g, 0, rfl, h.lt, fun i hi => by rw [Nat.zero_add]; exact h.cell hi⟩⟩
end Go.Proofs.Ytfnjbbokbdddpaa.M2
namespace Go.Proofs.Ytfnjbbokbdddpaa.M2
open Go.RowKit

section
variable {ag ag2 P : Int} {n : Nat} {ps : List Nat} {zs zs' : List Int}

theorem swP_drop {a : Nat} (h : a ∈ (swP ag P zs ps 0).drop 1) : a ∈ ps.drop 1 ∧ swO ag P zs a = false := by
  unfold swP at h
  cases ps with
  | nil => simp at h
  | cons b r => simpa using h

theorem swO_left (hos : Os n ps) (s : Swp n 0 ag P ps zs zs') {a : Nat} (h : a ∈ (swP ag P zs ps 0).drop 1) (x : Int) : swO ag P (zs'.set 0 x) a = false := by
  obtain ⟨h1, h2⟩ := swP_drop h
  obtain ⟨j, hj, rfl⟩ := hos.isr a (List.mem_of_mem_drop h1)
  obtain ⟨e0, e1⟩ := s.st j hj (fun hh => by rw [h2] at hh; cases hh.2)
  have e2 := s.ags j hj
  unfold swO at h2 ⊢
  rw [getD_set, getD_set, getD_set, if_neg (by omega), if_neg (by omega), if_neg (by omega), e0, e1, e2]
  exact h2

end

theorem ints_getD (ps : List Nat) {k : Nat} (h : k < ps.length) : (ints ps).getD k 0 = ((ps.getD k 0 : Nat) : Int) := by simp [ints, List.getD, h]
theorem ints_in {ps : List Nat} {a : Nat} (h : a ∈ ps) : ((a : Nat) : Int) ∈ ints ps := List.mem_map.2 ⟨a, h, rfl⟩

section
variable {w w' : World} {N N2 q p : Nat} {v v2 : Value} {size size2 : Int} {zs zs' ys ys' : List Int} {st st' st2 : Int} {c : Nat}
end

end Go.Proofs.Ytfnjbbokbdddpaa.M2
namespace Go.Proofs.Ytfnjbbokbdddpaa.M2
open Go.RowKit

section
variable {ag P : Int} {n : Nat} {ps : List Nat} {zs zs' : List Int}

theorem swP_none (ag P : Int) (zs : List Int) (os : List Nat) : swP ag P zs (os.take 0) 0 = [] := by simp [swP]
theorem swP_next {os : List Nat} {k : Nat} (hk : k < os.length) : swP ag P zs (os.take (k + 1)) 0 = swP ag P zs (os.take k) 0 ++ (if decide (1 ≤ k) && swO ag P zs (os.getD k 0) then [] else [os.getD k 0]) := by
  rw [take_next hk]
  unfold swP
  cases k with
  | zero => simp
  | succ j =>
    have hl : (os.take (j + 1)).length = j + 1 := by rw [List.length_take]; omega
    rw [List.take_append_of_le_length (by omega), List.drop_append_of_le_length (by omega), List.filter_append, List.append_assoc]
    congr 1
    congr 1
    rw [List.filter_cons, List.filter_nil, decide_eq_true (show 1 ≤ j + 1 by omega), Bool.true_and]
    cases swO ag P zs (os.getD (j + 1) 0) <;> rfl

theorem swP_le (ag P : Int) (zs : List Int) (os : List Nat) (i : Nat) : (swP ag P zs os i).length ≤ os.length := by
  unfold swP
  rw [List.length_append, List.length_take]
  have := List.length_filter_le (fun a => !swO ag P zs a) (os.drop (i + 1))
  rw [List.length_drop] at this
  omega
theorem Ok.reqSet (h : Ok n ps zs) {k : Nat} (hk : k < ps.length) (x : Int) : Ok n ps (zs.set (ps.getD k 0) x) := by
  have hl := h.len
  obtain ⟨q, hq, eq⟩ := h.os.at hk
  have hv : ∀ t, t ≤ ps.length → vAt (zs.set (ps.getD k 0) x) ps t = vAt zs ps t := fun t ht => vAt_set (.inl (by omega)) (fun h0 => by obtain ⟨j, hj, e⟩ := h.os.at (t := t - 1) (by omega); omega)
  refine ⟨by rw [List.length_set]; exact hl, h.os, fun t ht => by rw [hv t ht]; exact h.st t ht, fun t ht => ?_, fun j hj hm => ?_⟩
  · obtain ⟨j, hj, e⟩ := h.os.at ht
    rw [getD_set, if_neg (by omega)]
    exact h.ac t ht
  · have hne : 3 + 5 * j ≠ ps.getD k 0 := fun e => hm (by rw [e]; exact getD_mem hk)
    rw [getD_set, if_neg (by omega), getD_set, if_neg (by omega)]
    exact h.off j hj hm

theorem old_is (os : List Nat) (zs : List Int) (ag : Int) (k : Nat) (h2 : zs.getD 2 0 = 50) : oldAt zs os ag k = (decide (1 ≤ k) && swO ag 50 zs (os.getD k 0)) := by
  unfold oldAt swO
  rw [h2]

theorem stale_none (hos : Os n ps) (s : Swp n 0 ag P ps zs zs') (h2 : zs.getD 2 0 = P) : staleK (zs'.set 0 0) (swP ag P zs ps 0) ag (swP ag P zs ps 0).length = [] := by
  unfold staleK
  rw [List.map_eq_nil_iff, List.filter_eq_nil_iff]
  intro j hj
  have hj : j < (swP ag P zs ps 0).length := by simpa using hj
  have hz : (zs'.set 0 0).getD 2 0 = P := by rw [getD_set, if_neg (by omega), s.lo 2 (by omega), h2]
  unfold oldAt
  rw [hz]
  by_cases h1 : 1 ≤ j
  · have hm : (swP ag P zs ps 0).getD j 0 ∈ (swP ag P zs ps 0).drop 1 := by
      rw [List.mem_iff_getElem]
      refine ⟨j - 1, by rw [List.length_drop]; omega, ?_⟩
      rw [List.getElem_drop]
      simp only [show 1 + (j - 1) = j by omega]
      simp [List.getD, hj]
    have := swO_left hos s hm 0
    unfold swO at this
    rw [this]
    simp
  · rw [decide_eq_false h1]
    simp

theorem gone_at (hos : Os n ps) (s : Swp n 0 ag P ps zs zs') {k : Nat} (hk : k < ps.length) (ho : (decide (1 ≤ k) && swO ag P zs (ps.getD k 0)) = true) : (zs'.set 0 0).getD (ps.getD k 0) 0 = -1 ∧ (zs'.set 0 0).getD (ps.getD k 0 + 1) 0 = 0 := by
  rw [Bool.and_eq_true, decide_eq_true_eq] at ho
  obtain ⟨h1, h2⟩ := ho
  obtain ⟨q, hq, eq⟩ := hos.at hk
  have hm : ps.getD k 0 ∈ ps.drop (0 + 1) := by
    rw [List.mem_iff_getElem]
    refine ⟨k - 1, by rw [List.length_drop]; omega, ?_⟩
    rw [List.getElem_drop]
    simp only [show 0 + 1 + (k - 1) = k by omega]
    simp [List.getD, hk]
  obtain ⟨g0, g1⟩ := s.go _ hm h2
  rw [getD_set, if_neg (by omega), getD_set, if_neg (by omega)]
  exact ⟨g0, g1⟩
end

end Go.Proofs.Ytfnjbbokbdddpaa.M2
namespace Go.Proofs.Ytfnjbbokbdddpaa.M2
open Go.RowKit

def RI (v : Value) (xs : List Int) (W : World) : Prop := ∃ n, W.ownsRow n 3 1 v xs.length (xs.map (Value.int .i64))
def OwnI (w : World) (xs : List Int) (v : Value) (W : World) : Prop := RI v xs W ∧ Below w.heap.size w W
theorem OwnI.of {w W : World} {n : Nat} {v : Value} {xs : List Int} (h : W.ownsRow n 3 1 v xs.length (xs.map (Value.int .i64))) (hb : Below w.heap.size w W) : OwnI w xs v W := ⟨⟨n, h⟩, hb⟩
theorem OwnI.nil (w : World) {W : World} (hb : Below w.heap.size w W) : OwnI w [] (.slice none 0 0) W := ⟨⟨0, World.ownsRow_nil _ _ _ _⟩, hb⟩
theorem RO.toldR {w W : World} {n : Nat} {size : Int} {u : Value} {st : Int} {v : Value} {xs : List Int} (h : RO w n size u st v xs W) : OwnI w xs v W := OwnI.of h.2.1 h.2.2
theorem RI.block {W : World} {v : Value} {xs : List Int} (h : RI v xs W) {g : Nat} (hg : v.ownBlock = some g) : ∃ cs, W.heap[g]? = some (.cells cs 3 (0, 0)) := by
  obtain ⟨n, h⟩ := h
  rcases h.2 with ⟨rfl, _⟩ | ⟨g', cap, cur, rfl, _, hc, _⟩
  · simp [Value.ownBlock] at hg
  · simp only [Value.ownBlock, Option.some.injEq] at hg
    subst hg
    exact ⟨_, hc⟩
theorem RI.kept {W W' : World} {v : Value} {xs : List Int} (h : RI v xs W) (k : Kept W W') : RI v xs W' := by
  have hb := fun g hg => h.block (g := g) hg
  obtain ⟨n, h⟩ := h
  exact ⟨n, _root_.Go.Proofs.Ytfnjbbokbdddpaa.own_keep h fun g hg => by
    obtain ⟨cs, e⟩ := hb g hg
    rw [e]
    exact k _ _ _ e (by decide) (by decide)⟩
theorem RI.fresh {W W' : World} {v : Value} {xs : List Int} (h : RI v xs W) (hb : Below W.heap.size W W') : RI v xs W' := h.kept (keptOf hb)
theorem RI.shape {W : World} {v : Value} {xs : List Int} (h : RI v xs W) : ∃ ao cap, v = .slice ao xs.length cap ∧ Reads .i64 W ao xs.length xs := by
  obtain ⟨n, h⟩ := h
  obtain ⟨ao, cp, e, hr, _, _⟩ := _root_.Go.Proofs.Ytfnjbbokbdddpaa.reads_own h
  exact ⟨ao, cp, e, hr⟩

section
variable {w : World} {B : Nat} {u : Value} {size : Int} {zs : List Int} {st : Int} {ps : List Nat} {lost : Bool}

set_option maxRecDepth 100000 in
set_option maxHeartbeats 8000000 in
theorem refStaleR (h : w.ownsRow B 2 1 u zs.length (zs.map (Value.int .i64))) (hl : zs.length ≤ 900) (hP : Path zs ps lost) (age : Int) :
    Calls Try.prog 16 #[.agg #[.int .i64 size, u, .int .i64 st], .int .i64 age] w fun e w' => ∃ v, e = .returned v ∧ OwnI w (if lost then [] else staleK zs ps age ps.length) v w' := by
  obtain ⟨i0, hi, hz0, hz1, hz2⟩ := info_parts infoInt
  have HMX := Lib.hid (show ps.length ≤ 200 by have := hP.len; unfold mn at this; omega)
  have HSI := Lib.hid (fun (W : World) (hb : Below w.heap.size w W) (j : Nat) (hj : j < mn zs.length) => refSeeIn (size := size) (st := st) (own_keep h hb) (by omega) j hj)
  have HAt := Lib.hid (fun (W : World) (hb : Below w.heap.size w W) => refAtAny (size := size) (st := st) (own_keep h hb) 2)
  have HRC := Lib.hid (fun (W : World) (hb : Below w.heap.size w W) => refReach (size := size) (st := st) (own_keep h hb) hl hP)
  have HP := Lib.hid hP
  obtain ⟨ao, cap, rfl⟩ := ownShape h
  obtain ⟨W0, hW0⟩ : ∃ W, w.alloc (.cells #[.int .i64 size, .slice ao zs.length cap, .int .i64 st] 39) = W := ⟨_, rfl⟩
  have HR0 := Lib.hid (show RO w 0 size (.slice ao zs.length cap) st (.slice none 0 0) [] W0 by subst hW0; exact RO.new _ _ _ _ _)
  have C := HRC.out W0 HR0.out.2.2
  have HW0 := Lib.hid hW0
  have c0 := HR0.out.1.c0
  have c1 := HR0.out.1.c1
  have c2 := HR0.out.1.c2
  obtain ⟨pass, hpass⟩ : ∃ z, zs.getD 2 0 = z := ⟨_, rfl⟩
  rw [hpass] at HAt
  have HPass := Lib.hid hpass
  clear h hl hW0 HRC hP hpass
  obtain ⟨NN, hNN⟩ : ∃ N, mn zs.length = N := ⟨_, rfl⟩
  generalize hn : zs.length = n at *
  rw [hNN] at HSI
  have HNN := Lib.hid (show mn zs.length = NN by rw [hn]; exact hNN)
  clear hn hNN
  go_enter Try.func16, Try.ntmps16
  go_wp2_with fail
  rw [HW0.out]
  refine C.mono ?_
  clear C c0 c1 c2 HW0
  rintro e w1 ⟨v, rfl, la, lc, rfl, hlr, b1⟩
  have HR1 := Lib.hid ((HR0.out.fresh b1).turn (m := w1.heap.size))
  have HW1 := Lib.hid (Nat.lt_of_lt_of_le (lt_of_block HR0.out.1) b1.size)
  clear HR0 b1
  cases lost with
  | true =>
    clear hlr
    simp only [if_true, List.length_nil, Bool.not_true]
    go_wp2
    go_loopw [5, 8] (fun v i wr => v = .slice none 0 0 ∧ i = .int .i64 1 ∧ Hid (w1 = wr)) (fun _ _ _ => 0)
    case atStart => exact ⟨rfl, rfl, rfl⟩
    case round =>
      obtain ⟨rfl, rfl, hw⟩ := hrel
      have hw : w1 = wr := hw
      subst hw
      go_wp2
      go_ret
      exact ⟨_, rfl, OwnI.nil w HR1.out.2.2⟩
  | false =>
    simp only [Bool.false_eq_true, if_false, ints_len, Bool.not_false]
    simp only [Bool.false_eq_true, if_false, ints_len] at hlr
    have HLR := Lib.hid hlr
    clear hlr
    go_wp2
    go_loopw [5, 8] (fun v i wr => StaleRel w w1 size (.slice ao n cap) st zs ps age v i wr) (fun _ i _ => ps.length + 1 - (intOf i).toNat)
    case atStart => exact ⟨1, Nat.le_refl _, by omega, rfl, by rw [staleK_one]; exact HR1.out, Below.refl _ _⟩
    case round =>
      obtain ⟨k, hk1, hk, rfl, hR, hb⟩ := hrel
      obtain ⟨a2, cq, e2, hr2⟩ := hR.reads
      obtain ⟨m, hm⟩ : ∃ m, (staleK zs ps age k).length = m := ⟨_, rfl⟩
      rw [hm] at e2 hr2
      subst e2
      have HML := Lib.hid hm
      have HMM := Lib.hid (show m ≤ k by rw [← hm]; exact staleK_len _ _ _ _)
      have HR := Lib.hid hR
      have HBe := Lib.hid hb
      have HK1 := Lib.hid hk1
      have HKM := Lib.hid hk
      clear hm hr2 hR hb HR1 hk1 hk
      by_cases hlt : k < ps.length
      · obtain ⟨j, hj, e2⟩ := HP.out.isr k hlt
        obtain ⟨lb, lo, rfl, llt, hc⟩ := (HLR.out.keep HBe.out).2 (by omega)
        have c3 := hc k hlt
        have hyes := @staleK_yes zs ps age k
        have hno := @staleK_no zs ps age k
        have hat : oldAt zs ps age k = oldB (zs.getD (ps.getD k 0) 0) (zs.getD (ps.getD k 0 + 1) 0) (zs.getD (ps.getD k 0 + 2) 0) pass age := by
          unfold oldAt
          rw [HPass.out, decide_eq_true HK1.out, Bool.true_and]
        have hsee := fun (W : World) (hb : Below wr.heap.size wr W) => HSI.out W (HR.out.2.2.trans (hb.mono HR.out.2.2.size)) j (by rw [← HNN.out]; exact hj)
        obtain ⟨a, ha⟩ : ∃ a : Int, 3 + 5 * (j : Int) = a := ⟨_, rfl⟩
        rw [show (ints ps).getD k 0 = a by rw [← ha]; simp only [ints, List.getD_eq_getElem?_getD, List.getElem?_map] at e2 ⊢; rw [show ps[k]? = some (3 + 5 * j) by simp only [List.getElem?_eq_getElem hlt, Option.getD_some] at e2 ⊢; rw [e2]]; simp] at c3
        rw [show ((ps.getD k 0 : Nat) : Int) = a by rw [e2]; omega] at hyes
        rw [e2] at hat
        rw [ha] at hsee
        have c0 := HR.out.1.c0
        have c1 := HR.out.1.c1
        have c2 := HR.out.1.c2
        have HKE := Lib.hid (fun (W : World) (hb : Below wr.heap.size wr W) => And.intro (HR.out.1.keep hb).c0 (And.intro (HR.out.1.keep hb).c1 (And.intro (HR.out.1.keep hb).c2 ((hb.cell (p := ⟨lb, lo + k, none⟩) llt).trans c3))))
        generalize zs.getD (3 + 5 * j) 0 = z0 at *
        generalize zs.getD (3 + 5 * j + 1) 0 = z1 at *
        generalize zs.getD (3 + 5 * j + 2) 0 = z2 at *
        generalize zs.getD (3 + 5 * j + 3) 0 = z3 at *
        generalize zs.getD (3 + 5 * j + 4) 0 = z4 at *
        have HSee := Lib.hid hsee
        have HY := Lib.hid hyes
        have HNo := Lib.hid hno
        have HLT := Lib.hid hlt
        have HAO := Lib.hid hat
        have k0 : (k : Int) < ps.length := by omega
        have k2 : (k : Int) ≤ 200 := by have := HMX.out; omega
        clear hyes hno hsee ha hc hlt hat e2 hj
        go_upto_region 6 with (fail)
        go_cut [9, 10] from 22 to 30 (fun d x wx => ∃ N : Nat, d = .pointer (some ⟨N, 0, none⟩) ∧ x = .bool true ∧ Hid (B5 wx N 79 z0 z1 z2 z3 z4 ∧ Below wr.heap.size wr wx))
        case first =>
          have HCA := Lib.hid (HSee.out wr.drew (Below.refl _ _).drew)
          have HCB := Lib.hid (HSee.out (wr.drew.alloc (.cells #[.int .i64 0, .int .i64 0, .int .i64 0, .int .i64 0, .int .i64 0] 79)) ((Below.refl wr.heap.size wr).drew.alloc (Nat.le_refl _) _))
          have d0 := (HKE.out wr.drew (Below.refl _ _).drew).1
          have d1 := (HKE.out wr.drew (Below.refl _ _).drew).2.1
          have d2 := (HKE.out wr.drew (Below.refl _ _).drew).2.2.1
          have d3 := (HKE.out wr.drew (Below.refl _ _).drew).2.2.2
          have hq := HKE.out ((wr.alloc (.cells #[.int .i64 0, .int .i64 0, .int .i64 0, .int .i64 0, .int .i64 0] 79)).drew) ((Below.refl wr.heap.size wr).alloc (Nat.le_refl _) _).drew
          have q0 := hq.1
          have q1 := hq.2.1
          have q2 := hq.2.2.1
          have q3 := hq.2.2.2
          clear hq HSee
          go_wp2
          go_region_held3 (fun w' => w'.cell? ⟨w.heap.size, 0, none⟩ = some (.int .i64 size) ∧ w'.cell? ⟨w.heap.size, 1, none⟩ = some (.slice ao n cap) ∧ w'.cell? ⟨w.heap.size, 2, none⟩ = some (.int .i64 st) ∧ w'.cell? ⟨lb, lo + k, none⟩ = some (.int .i64 a)) (((try dsimp only); first
            | with_reducible exact ⟨c0, c1, c2, c3⟩ | with_reducible exact ⟨d0, d1, d2, d3⟩ | with_reducible exact ⟨q0, q1, q2, q3⟩ | with_reducible exact ⟨x0, x1, x2, x3⟩ | with_reducible exact ⟨v0, v1, v2, v3⟩ | with_reducible exact ⟨s0, s1, s2, s3⟩ | with_reducible exact ⟨p0, p1, p2, p3⟩))
            ((go_at_call 38; first
            | (refine HCA.out.mono ?_; rintro e w5 ⟨rfl, b5⟩
               have hb := (Below.refl wr.heap.size wr).drew.trans (b5.mono (Nat.le_refl wr.heap.size))
               have hx := HKE.out w5 hb
               have x0 := hx.1
               have x1 := hx.2.1
               have x2 := hx.2.2.1
               have x3 := hx.2.2.2
               have hv := HKE.out (w5.alloc (.cells #[.int .i64 0, .int .i64 0, .int .i64 0, .int .i64 0, .int .i64 0] 79)) (hb.alloc hb.size _)
               have v0 := hv.1
               have v1 := hv.2.1
               have v2 := hv.2.2.1
               have v3 := hv.2.2.2
               have hs := HKE.out (w5.alloc (.cells #[.int .i64 z0, .int .i64 z1, .int .i64 z2, .int .i64 z3, .int .i64 z4] 79)) (hb.alloc hb.size _)
               have s0 := hs.1
               have s1 := hs.2.1
               have s2 := hs.2.2.1
               have s3 := hs.2.2.2
               have HF := Lib.hid (And.intro (B5.new w5 79 z0 z1 z2 z3 z4) (hb.alloc hb.size (.cells #[.int .i64 z0, .int .i64 z1, .int .i64 z2, .int .i64 z3, .int .i64 z4] 79)))
               clear b5 hx hv hs hb)
            | (refine HCB.out.mono ?_; rintro e w5 ⟨rfl, b5⟩
               have hb := ((Below.refl wr.heap.size wr).drew.alloc (Nat.le_refl _) (.cells #[.int .i64 0, .int .i64 0, .int .i64 0, .int .i64 0, .int .i64 0] 79)).trans (b5.mono (by simp))
               have hx := HKE.out w5 hb
               have x0 := hx.1
               have x1 := hx.2.1
               have x2 := hx.2.2.1
               have x3 := hx.2.2.2
               have hz := (B5.new wr.drew 79 0 0 0 0 0).keep b5
               have y0 : w5.cell? ⟨wr.heap.size, 0, none⟩ = _ := hz.c0
               have y1 : w5.cell? ⟨wr.heap.size, 1, none⟩ = _ := hz.c1
               have y2 : w5.cell? ⟨wr.heap.size, 2, none⟩ = _ := hz.c2
               have y3 : w5.cell? ⟨wr.heap.size, 3, none⟩ = _ := hz.c3
               have y4 : w5.cell? ⟨wr.heap.size, 4, none⟩ = _ := hz.c4
               have yf : ∀ o, w5.frozen? ⟨wr.heap.size, o, none⟩ = false := hz.f
               have hs5 := ((((hb.setCell (p := ⟨wr.heap.size, 0, none⟩) (Nat.le_refl _) (.int .i64 z0)).setCell (p := ⟨wr.heap.size, 1, none⟩) (Nat.le_refl _) (.int .i64 z1)).setCell (p := ⟨wr.heap.size, 2, none⟩) (Nat.le_refl _) (.int .i64 z2)).setCell (p := ⟨wr.heap.size, 3, none⟩) (Nat.le_refl _) (.int .i64 z3)).setCell (p := ⟨wr.heap.size, 4, none⟩) (Nat.le_refl _) (.int .i64 z4)
               have hs := HKE.out _ hs5
               have p0 := hs.1
               have p1 := hs.2.1
               have p2 := hs.2.2.1
               have p3 := hs.2.2.2
               have HF := Lib.hid (And.intro (hz.set5 z0 z1 z2 z3 z4) hs5)
               clear b5 hx hs hs5 hz hb)))
          all_goals
            go_wp2
            go_meet
            exact ⟨_, rfl, rfl, HF⟩
        case' rest => skip
        obtain ⟨N, rfl, rfl, HF⟩ := hcut
        have HRC2 := Lib.hid (HR.out.fresh HF.out.2)
        have HBC := Lib.hid (HBe.out.trans (HF.out.2.mono HBe.out.size))
        have HC2 := Lib.hid (HF.out.2)
        have HB5 := Lib.hid HF.out.1
        have CA : Calls Try.prog 39 #[.agg #[.int .i64 size, .slice ao n cap, .int .i64 st], .int .i64 2] wc.drew fun e w' => e = .returned (.int .i64 pass) ∧ Below wc.drew.heap.size wc.drew w' := HAt.out wc.drew HRC2.out.2.2.drew
        have HCA := Lib.hid CA
        clear c0 c1 c2 c3 HSee HR HBe HF CA
        go_upto_region 7 with (fail)
        go_cut [47] from 31 to 47 (fun s wx => s = .bool (oldB z0 z1 z2 pass age) ∧ Hid (Below wc.heap.size wc wx))
        case first =>
          have r0 := HB5.out.c0
          have r1 := HB5.out.c1
          have r2 := HB5.out.c2
          by_cases h1 : z1 = 1
          · by_cases h0 : z0 = 0
            · have HOB := Lib.hid (show oldB z0 z1 z2 pass age = decide (age < wrap64 (pass - z2)) by rw [h0, h1]; rfl)
              subst h0 h1
              have c0 := HRC2.out.1.c0
              have c1 := HRC2.out.1.c1
              have c2 := HRC2.out.1.c2
              have HKC := Lib.hid (fun (W : World) (hb : Below wc.heap.size wc W) => And.intro (HRC2.out.1.keep hb).c0 (And.intro (HRC2.out.1.keep hb).c1 (And.intro (HRC2.out.1.keep hb).c2 (And.intro (HB5.out.keep hb).c0 (And.intro (HB5.out.keep hb).c1 (HB5.out.keep hb).c2)))))
              have hd := HKC.out wc.drew (Below.refl _ _).drew
              obtain ⟨d0, d1, d2, d3, d4, d5⟩ := hd
              go_wp2
              go_region_held3 (fun w' => w'.cell? ⟨w.heap.size, 0, none⟩ = some (.int .i64 size) ∧ w'.cell? ⟨w.heap.size, 1, none⟩ = some (.slice ao n cap) ∧ w'.cell? ⟨w.heap.size, 2, none⟩ = some (.int .i64 st) ∧ w'.cell? ⟨N, 0, none⟩ = some (.int .i64 0) ∧ w'.cell? ⟨N, 1, none⟩ = some (.int .i64 1) ∧ w'.cell? ⟨N, 2, none⟩ = some (.int .i64 z2)) (((try dsimp only); first
                | with_reducible exact ⟨c0, c1, c2, r0, r1, r2⟩ | with_reducible exact ⟨d0, d1, d2, d3, d4, d5⟩ | with_reducible exact ⟨x0, x1, x2, x3, x4, x5⟩))
                ((go_at_call 39; first
                | (refine HCA.out.mono ?_; rintro e w5 ⟨rfl, b5⟩; have hb := (Below.refl wc.heap.size wc).drew.trans (b5.mono (Nat.le_refl wc.heap.size)); obtain ⟨x0, x1, x2, x3, x4, x5⟩ := HKC.out w5 hb; have HFB := Lib.hid hb; clear b5 hb)))
              all_goals
                go_wp2
                go_meet
                exact ⟨by rw [HOB.out, IntWalk.i64_left], HFB⟩
            · have HOB := Lib.hid (show oldB z0 z1 z2 pass age = false by simp [oldB, h0])
              have h0 : (z0 == 0) = false := by simpa using h0
              subst h1
              go_wp2
              go_quiet (fail)
              go_wp2
              go_meet
              exact ⟨by rw [HOB.out], Lib.hid (below_drewN (Below.refl _ _) _)⟩
          · have HOB := Lib.hid (show oldB z0 z1 z2 pass age = false by simp [oldB, h1])
            have h1 : (z1 == 1) = false := by simpa using h1
            go_wp2
            go_quiet (fail)
            go_wp2
            go_meet
            exact ⟨by rw [HOB.out], Lib.hid (below_drewN (Below.refl _ _) _)⟩
        case' rest => skip
        obtain ⟨rfl, HB7⟩ := hcut
        have HRC3 := Lib.hid (HRC2.out.fresh HB7.out)
        have HBD := Lib.hid (HBC.out.trans (HB7.out.mono HBC.out.size))
        have e3 := (HKE.out _ (HC2.out.trans (HB7.out.mono HC2.out.size))).2.2.2
        have HRL := Lib.hid (show wc.ownsRow w1.heap.size 3 1 (.slice a2 m cq) m ((staleK zs ps age k).map (Value.int .i64)) by have := HRC3.out.2.1; rwa [HML.out] at this)
        clear HKE HRC2 HC2 HB5 HB7 HCA
        rcases hob : oldB z0 z1 z2 pass age with _ | _
        · have HX := Lib.hid (HNo.out (by rw [HAO.out, hob]))
          clear HY HNo HAO hob
          go_wp2
          go_roundw
          case rel => exact ⟨k + 1, by omega, by have := HLT.out; omega, by go_num, by rw [HX.out]; exact HRC3.out, HBD.out⟩
          case measure => have := HLT.out; simp [intOf]; omega
        · have HX := Lib.hid (HY.out (by rw [HAO.out, hob]))
          clear HY HNo HAO hob
          go_wp2_with (at_builtin; refine wpList_append_later rfl (.tmp 48) (.tmp 53) 34 rfl w1.heap.size 3 i0 _ 1 8 Try.underlying34 hi hz0 hz1 hz2 rfl (by decide) _ _ _ rfl (HRL.out.alloc _) ⟨_, 0, none⟩ 1 1 [.int .i64 a] rfl rfl (by intro j u hu; cases j <;> simp at hu; subst hu; go_simp) (by intro u hu; simp at hu; subst hu; rfl) (by have := HMX.out; have := HLT.out; have := HMM.out; simp only [maxLen]; omega) (by have := HMX.out; have := HLT.out; have := HMM.out; omega) (by have := HBD.out.size; simp; omega) ?_; intro v2 w2 q2 g2 _; obtain ⟨av, cv, rfl⟩ := _root_.Go.Proofs.Ytfnjbbokbdddpaa.ownShape q2; have HN := Lib.hid (HRC3.out.put HW1.out (by rw [HML.out]; exact q2) g2); have HB2 := Lib.hid (HBD.out.trans (rowBelow HRC3.out.2.1 HBD.out.size g2)); clear q2 g2)
          rw [HX.out] at HN
          go_roundw
          case rel => exact ⟨k + 1, by omega, by have := HLT.out; omega, by go_num, HN.out, HB2.out⟩
          case measure => have := HLT.out; simp [intOf]; omega
      · have HEnd := Lib.hid (staleK_end zs ps age k HK1.out HKM.out hlt)
        have k9 : (ps.length : Int) ≤ k := by omega
        clear hlt
        go_wp2
        go_ret
        exact ⟨_, rfl, by rw [← HEnd.out]; exact HR.out.toldR⟩
end

end Go.Proofs.Ytfnjbbokbdddpaa.M2
