/-
  The walk of CellsDoes: for all numbers and lists of deeds it answers true and leaves all old memory as it was.
-/
import Derived.Test.YteebmcldmiemnaaDeeds
import Derived.Deep.RegionHeld3
namespace Go.Proofs.Yteebmcldmiemnaa
open Go.RowKit

theorem Mem.le {w : World} {B B' p : Nat} {v : Value} {size : Int} {zs : List Int} {st : Int} (m : Mem w B p v size zs st) (h : B' ≤ B) : Mem w B' p v size zs st :=
  ⟨m.block, Nat.le_trans h m.low, own_le m.own h, m.s0, m.s1, m.room⟩

/-- All that is known at a round's head, and between its calls. -/
def Held (w : World) (rb : Nat) (size : Int) (p : Nat) (v : Value) (zs : List Int) (st : Int) (u : Value) (wr : World) : Prop :=
  Mem wr w.heap.size p v size zs st ∧ Boxed wr rb (.int .i64 size) u (.int .i64 st) ∧ RefOk wr w.heap.size u zs v ∧ Below w.heap.size w wr

theorem Held.fresh {w : World} {rb p : Nat} {size st : Int} {v u : Value} {zs : List Int} {a b : World} (h : Held w rb size p v zs st u a) (hb : Below a.heap.size a b) : Held w rb size p v zs st u b :=
  ⟨h.1.fresh hb, h.2.1.keep hb, ⟨own_keep h.2.2.1.1 hb, h.2.2.1.2⟩, h.2.2.2.trans (hb.mono h.2.2.2.size)⟩

theorem Held.drew {w : World} {rb p : Nat} {size st : Int} {v u : Value} {zs : List Int} {a : World} (h : Held w rb size p v zs st u a) : Held w rb size p v zs st u a.drew := h.fresh (Below.refl _ _).drew

/-- A copy that goes on instead. -/
theorem Held.copied {w : World} {rb p q : Nat} {size st : Int} {v u : Value} {zs : List Int} {a b : World} (h : Held w rb size p v zs st u a)
    (m : Mem b a.heap.size q (.slice (some ⟨a.heap.size, 0, none⟩) zs.length zs.length) size zs st) (hb : Below a.heap.size a b) : Held w rb size q (.slice (some ⟨a.heap.size, 0, none⟩) zs.length zs.length) zs st u b := by
  obtain ⟨_, h2, h3, h4⟩ := h.fresh hb
  refine ⟨m.le h.2.2.2.size, h2, ⟨h3.1, fun g hg e => ?_⟩, h4⟩
  have := (h.2.2.1.1.lt g hg).2
  simp only [Value.ownBlock, Option.some.injEq] at e
  omega

/-- Behind a step the document's memory is written anew. -/
theorem Held.stepped {w : World} {rb p : Nat} {size st st' : Int} {v v' u u' : Value} {zs zs' : List Int} {a b : World} (h : Held w rb size p v zs st u a) (m : Mem b w.heap.size p v' size zs' st') (hr : RefOk b w.heap.size u' zs' v') (wr : Wrote p v a b) (hrb : w.heap.size ≤ rb) (ob : Obj) :
    Boxed (b.alloc ob) rb (.int .i64 size) u (.int .i64 st) ∧ rb ≠ b.heap.size ∧
    Held w rb size p v' zs' st' u' ((((b.alloc ob).setCell ⟨rb, 0, none⟩ (.int .i64 size)).setCell ⟨rb, 1, none⟩ u').setCell ⟨rb, 2, none⟩ (.int .i64 st')) := by
  obtain ⟨h1, h2, h3, h4⟩ := h
  have hp : rb ≠ p := by
    rintro rfl
    have := h1.block
    unfold Boxed at h2
    rw [h2] at this
    simp at this
  have hx : Boxed b rb (.int .i64 size) u (.int .i64 st) := (wr.block rb h2.lt hp (own_ne_boxed h1.own h2)).trans h2
  have hy := hx.alloc ob
  have hv : v'.ownBlock ≠ some rb := own_ne_boxed (m.alloc ob).own hy
  have hu : u'.ownBlock ≠ some rb := own_ne_boxed (hr.1.alloc ob) hy
  refine ⟨hy, by have := hx.lt; omega, ?_, ((hy.set0 _).set1 _).set2 _, ⟨?_, hr.2⟩, ?_⟩
  · exact (((m.alloc ob).setOther (q := ⟨rb, 0, none⟩) hp hv _).setOther (q := ⟨rb, 1, none⟩) hp hv _).setOther (q := ⟨rb, 2, none⟩) hp hv _
  · exact ownsRow_setCell_other (ownsRow_setCell_other (ownsRow_setCell_other (hr.1.alloc ob) hu _) hu _) hu _
  · have hb : Below w.heap.size w b := h4.trans (wr.below h4.size h1.low (fun g hg => (h1.rowLt hg).1))
    exact (((hb.alloc hb.size _).setCell hrb _).setCell hrb _).setCell hrb _

/-- What holds at each round's head. -/
def DoesRel (w : World) (rb : Nat) (size : Int) (len : Nat) (mp i : Value) (wr : World) : Prop :=
  ∃ (j p : Nat) (v : Value) (zs : List Int) (st : Int) (u : Value), j ≤ len ∧ i = .int .i64 j ∧ mp = .pointer (some ⟨p, 0, none⟩) ∧ 0 ≤ st ∧ st ≤ j ∧ Held w rb size p v zs st u wr

set_option maxRecDepth 100000 in
set_option maxHeartbeats 64000000 in
theorem doesTrue {w : World} (n : Int) (ao : Option Addr) (len cap : Nat) (hd : Deeds w ao len) (hlen : len ≤ 40) :
    Calls Try.prog 10 #[.int .i64 n, .slice ao len cap] w fun e w' => e = .returned (.bool true) ∧ Below w.heap.size w w' := by
  have HD := Lib.hid hd
  clear hd
  have CN := newAny n w
  have hsz := sizeOf'_in n
  have RN := fun w => refNew n w
  generalize sizeOf' n = size at *
  go_enter Try.func10, Try.ntmps10
  go_wp2_with fail
  refine CN.mono ?_
  clear CN
  rintro e w1 ⟨rfl, m1, b1⟩
  have HM1 := Lib.hid m1
  have HB1 := Lib.hid b1
  clear m1 b1
  go_wp2_with fail
  refine (RN w1).mono ?_
  clear RN
  rintro e w2 ⟨rfl, b2⟩
  have HM2 := Lib.hid (HM1.out.fresh b2)
  have HB2 := Lib.hid (HB1.out.trans (b2.mono HB1.out.size))
  clear b2 HM1 HB1
  go_wp2
  generalize hW : w2.alloc (.cells #[.int .i64 size, .slice none 0 0, .int .i64 0] 49) = W
  have HH := Lib.hid (show Held w w2.heap.size size w.heap.size (.slice none 0 0) [] 0 (.slice none 0 0) W by
    subst hW
    exact ⟨HM2.out.alloc _, Boxed.new _ _ _ _, ⟨World.ownsRow_nil _ _ _ _, by simp [Value.ownBlock]⟩, HB2.out.alloc HB2.out.size _⟩)
  have hrb : w.heap.size ≤ w2.heap.size := HB2.out.size
  clear hW HM2 HB2
  generalize w2.heap.size = rb at *
  go_loopw [5, 7] (fun mp i wr => DoesRel w rb size len mp i wr) (fun _ i _ => len - (intOf i).toNat)
  case atStart => exact ⟨0, _, _, _, 0, _, Nat.zero_le _, rfl, rfl, by omega, by omega, HH.out⟩
  case round =>
    obtain ⟨j, p, v, zs, st, u, hj, rfl, rfl, s0, s1, hH⟩ := hrel
    clear HH
    have HR := Lib.hid hH
    clear hH
    by_cases hlt : j < len
    · obtain ⟨bb, off, rfl, lb, hcs⟩ := (HD.out.keep HR.out.2.2.2).2 (by omega)
      obtain ⟨k, m, a, q, x, kk0, kk1, aa0, aa1, z0, z1, z2, z3, z4⟩ := hcs j hlt
      clear hcs
      have i0 : (j : Int) < len := by omega
      rcases (show ¬ 20 < m ∨ (20 < m ∧ (j : Int) % 3 = 0) ∨ (20 < m ∧ 0 < (j : Int) % 3) from by omega) with hn | ⟨hn, hn3⟩ | ⟨hn, hn3⟩
      · by_cases hc : k % 5 = 4
        · skip
          go_upto_region 11 with (fail)
          generalize hW1 : wr.alloc (.cells #[.int .u8 k, .int .i64 (m), .int .u8 a, .int .i64 q, .int .i64 x] 52) = W1
          have HW1 := Lib.hid (show Held w rb size p v zs st u W1 by subst hW1; exact HR.out.fresh ((Below.refl _ _).alloc (Nat.le_refl _) _))
          have HD1 := Lib.hid (show Deeded W1 wr.heap.size k (m) a q x by subst hW1; exact heap_alloc_new wr _)
          clear hW1 z0 z1 z2 z3 z4
          have y0 := HD1.out.c0
          have CY := copyAny HW1.out.1
          go_wp2_with fail
          refine CY.mono ?_
          clear CY
          rintro e W2 ⟨pq, rfl, mq, bq⟩
          have HW2 := Lib.hid (HW1.out.copied mq bq)
          have HD2 := Lib.hid (show Deeded W2 wr.heap.size k (m) a q x from (bq.block _ HD1.out.lt).trans HD1.out)
          clear mq bq y0
          have y0 := HD2.out.c0
          have g0 := HW2.out.2.1.c0
          have g1 := HW2.out.2.1.c1
          have g2 := HW2.out.2.1.c2
          have y1 := HD2.out.c1
          have y2 := HD2.out.c2
          have y3 := HD2.out.c3
          have y4 := HD2.out.c4
          obtain ⟨uo, un, uc, hu⟩ := ownShape' HW2.out.2.2.1.1
          rw [hu] at g1
          have C := stepAny HW2.out.1 HW2.out.2.2.1 k (m) a q x aa0 aa1 kk0 kk1 s0 (by omega)
          rw [hu] at C
          have HU := Lib.hid hu
          clear hu
          go_wp2_with fail
          refine C.mono ?_
          clear C
          rintro e w3 ⟨v', zs', st', u', rfl, m3, r3, t0, t1, wr3, l3⟩
          obtain ⟨uo', un', uc', rfl⟩ := ownShape' r3.1
          have hs := HW2.out.stepped m3 r3 wr3 hrb (.cells #[.int .i64 size, .slice uo' un' uc', .int .i64 st'] 49)
          clear m3 r3 wr3 l3 y0 y1 y2 y3 y4 g0 g1 g2
          go_upto_region 14 with (fail)
          generalize hW4 : w3.alloc (.cells #[.int .i64 size, .slice uo' un' uc', .int .i64 st'] 49) = W4 at *
          have HN := Lib.hid (show Boxed W4 w3.heap.size (.int .i64 size) (.slice uo' un' uc') (.int .i64 st') by subst hW4; exact Boxed.new _ _ _ _)
          clear hW4
          obtain ⟨hx, hne, hs⟩ := hs
          have hne' : ¬ w3.heap.size = rb := fun e => hne e.symm
          have g0 := hx.c0
          have g1 := hx.c1
          have g2 := hx.c2
          have gf := hx.f
          have q0 := HN.out.c0
          have q1 := HN.out.c1
          have q2 := HN.out.c2
          have HS := Lib.hid hs
          clear hx hs
          go_wp2
          clear g0 g1 g2 gf q0 q1 q2
          generalize ((W4.setCell ⟨rb, 0, none⟩ (.int .i64 size)).setCell ⟨rb, 1, none⟩ (.slice uo' un' uc')).setCell ⟨rb, 2, none⟩ (.int .i64 st') = W5 at *
          have g1 := HS.out.2.1.c1
          have g2 := HS.out.2.1.c2
          have hun : un' = zs'.length := by
            obtain ⟨_, _, e⟩ := ownShape HS.out.2.2.1.1
            simp only [Value.slice.injEq] at e
            exact e.2.1
          subst hun
          have CC := cellsAny HS.out.1.drew
          have hzl : zs'.length ≤ 1000 := by have := HS.out.1.s1; have := HS.out.1.room; omega
          go_region_held3 (fun w' => w'.cell? ⟨rb, 1, none⟩ = some (.slice uo' zs'.length uc') ∧ w'.cell? ⟨rb, 2, none⟩ = some (.int .i64 st')) (first | exact ⟨g1, g2⟩ | exact ⟨i1, i2⟩ | exact ⟨j1, j2⟩) (first
            | (go_at_call 16; refine CC.mono ?_; rintro e w6 ⟨rfl, o6, b6⟩; have h6 := HS.out.drew.fresh b6; have i1 := h6.2.1.c1; have i2 := h6.2.1.c2; have CS := sameEq w6 _ _ zs'.length zs'.length uc' zs' (reads_own o6) (reads_own h6.2.2.1.1) (by omega); have H6 := Lib.hid h6; clear o6 b6 h6)
            | (go_at_call 20; refine CS.mono ?_; rintro e w7 ⟨rfl, b7⟩; have h7 := H6.out.fresh b7; have j1 := h7.2.1.c1; have j2 := h7.2.1.c2; have CT := topAny h7.1; have CP := stepsAny h7.1; have H7 := Lib.hid h7; clear b7 h7)
            | (go_at_call 17; refine CT.mono ?_; rintro e w' ⟨rfl, rfl⟩)
            | (go_at_call 18; refine CP.mono ?_; rintro e w' ⟨rfl, rfl⟩))
          all_goals go_wp2
          go_roundw
          case rel => exact ⟨j + 1, _, _, zs', st', _, by omega, by go_num, rfl, by omega, by omega, H7.out⟩
          case measure => simp [intOf]; omega
        · skip
          go_upto_region 11 with (fail)
          generalize hW1 : wr.alloc (.cells #[.int .u8 k, .int .i64 (m), .int .u8 a, .int .i64 q, .int .i64 x] 52) = W1
          have HW1 := Lib.hid (show Held w rb size p v zs st u W1 by subst hW1; exact HR.out.fresh ((Below.refl _ _).alloc (Nat.le_refl _) _))
          have HD1 := Lib.hid (show Deeded W1 wr.heap.size k (m) a q x by subst hW1; exact heap_alloc_new wr _)
          clear hW1 z0 z1 z2 z3 z4
          have y0 := HD1.out.c0
          have HW2 := HW1
          have HD2 := HD1
          have hk5 : ¬ k % 5 = 4 := hc
          have g0 := HW2.out.2.1.c0
          have g1 := HW2.out.2.1.c1
          have g2 := HW2.out.2.1.c2
          have y1 := HD2.out.c1
          have y2 := HD2.out.c2
          have y3 := HD2.out.c3
          have y4 := HD2.out.c4
          obtain ⟨uo, un, uc, hu⟩ := ownShape' HW2.out.2.2.1.1
          rw [hu] at g1
          have C := stepAny HW2.out.1 HW2.out.2.2.1 k (m) a q x aa0 aa1 kk0 kk1 s0 (by omega)
          rw [hu] at C
          have HU := Lib.hid hu
          clear hu
          go_wp2_with fail
          refine C.mono ?_
          clear C
          rintro e w3 ⟨v', zs', st', u', rfl, m3, r3, t0, t1, wr3, l3⟩
          obtain ⟨uo', un', uc', rfl⟩ := ownShape' r3.1
          have hs := HW2.out.stepped m3 r3 wr3 hrb (.cells #[.int .i64 size, .slice uo' un' uc', .int .i64 st'] 49)
          clear m3 r3 wr3 l3 y0 y1 y2 y3 y4 g0 g1 g2
          go_upto_region 14 with (fail)
          generalize hW4 : w3.alloc (.cells #[.int .i64 size, .slice uo' un' uc', .int .i64 st'] 49) = W4 at *
          have HN := Lib.hid (show Boxed W4 w3.heap.size (.int .i64 size) (.slice uo' un' uc') (.int .i64 st') by subst hW4; exact Boxed.new _ _ _ _)
          clear hW4
          obtain ⟨hx, hne, hs⟩ := hs
          have hne' : ¬ w3.heap.size = rb := fun e => hne e.symm
          have g0 := hx.c0
          have g1 := hx.c1
          have g2 := hx.c2
          have gf := hx.f
          have q0 := HN.out.c0
          have q1 := HN.out.c1
          have q2 := HN.out.c2
          have HS := Lib.hid hs
          clear hx hs
          go_wp2
          clear g0 g1 g2 gf q0 q1 q2
          generalize ((W4.setCell ⟨rb, 0, none⟩ (.int .i64 size)).setCell ⟨rb, 1, none⟩ (.slice uo' un' uc')).setCell ⟨rb, 2, none⟩ (.int .i64 st') = W5 at *
          have g1 := HS.out.2.1.c1
          have g2 := HS.out.2.1.c2
          have hun : un' = zs'.length := by
            obtain ⟨_, _, e⟩ := ownShape HS.out.2.2.1.1
            simp only [Value.slice.injEq] at e
            exact e.2.1
          subst hun
          have CC := cellsAny HS.out.1.drew
          have hzl : zs'.length ≤ 1000 := by have := HS.out.1.s1; have := HS.out.1.room; omega
          go_region_held3 (fun w' => w'.cell? ⟨rb, 1, none⟩ = some (.slice uo' zs'.length uc') ∧ w'.cell? ⟨rb, 2, none⟩ = some (.int .i64 st')) (first | exact ⟨g1, g2⟩ | exact ⟨i1, i2⟩ | exact ⟨j1, j2⟩) (first
            | (go_at_call 16; refine CC.mono ?_; rintro e w6 ⟨rfl, o6, b6⟩; have h6 := HS.out.drew.fresh b6; have i1 := h6.2.1.c1; have i2 := h6.2.1.c2; have CS := sameEq w6 _ _ zs'.length zs'.length uc' zs' (reads_own o6) (reads_own h6.2.2.1.1) (by omega); have H6 := Lib.hid h6; clear o6 b6 h6)
            | (go_at_call 20; refine CS.mono ?_; rintro e w7 ⟨rfl, b7⟩; have h7 := H6.out.fresh b7; have j1 := h7.2.1.c1; have j2 := h7.2.1.c2; have CT := topAny h7.1; have CP := stepsAny h7.1; have H7 := Lib.hid h7; clear b7 h7)
            | (go_at_call 17; refine CT.mono ?_; rintro e w' ⟨rfl, rfl⟩)
            | (go_at_call 18; refine CP.mono ?_; rintro e w' ⟨rfl, rfl⟩))
          all_goals go_wp2
          go_roundw
          case rel => exact ⟨j + 1, _, _, zs', st', _, by omega, by go_num, rfl, by omega, by omega, H7.out⟩
          case measure => simp [intOf]; omega
      · by_cases hc : k % 5 = 4
        · skip
          go_upto_region 11 with (fail)
          generalize hW1 : wr.alloc (.cells #[.int .u8 k, .int .i64 (m), .int .u8 a, .int .i64 q, .int .i64 x] 52) = W1
          have HW1 := Lib.hid (show Held w rb size p v zs st u W1 by subst hW1; exact HR.out.fresh ((Below.refl _ _).alloc (Nat.le_refl _) _))
          have HD1 := Lib.hid (show Deeded W1 wr.heap.size k (m) a q x by subst hW1; exact heap_alloc_new wr _)
          clear hW1 z0 z1 z2 z3 z4
          have y0 := HD1.out.c0
          have CY := copyAny HW1.out.1
          go_wp2_with fail
          refine CY.mono ?_
          clear CY
          rintro e W2 ⟨pq, rfl, mq, bq⟩
          have HW2 := Lib.hid (HW1.out.copied mq bq)
          have HD2 := Lib.hid (show Deeded W2 wr.heap.size k (m) a q x from (bq.block _ HD1.out.lt).trans HD1.out)
          clear mq bq y0
          have y0 := HD2.out.c0
          have g0 := HW2.out.2.1.c0
          have g1 := HW2.out.2.1.c1
          have g2 := HW2.out.2.1.c2
          have y1 := HD2.out.c1
          have y2 := HD2.out.c2
          have y3 := HD2.out.c3
          have y4 := HD2.out.c4
          obtain ⟨uo, un, uc, hu⟩ := ownShape' HW2.out.2.2.1.1
          rw [hu] at g1
          have C := stepAny HW2.out.1 HW2.out.2.2.1 k (m) a q x aa0 aa1 kk0 kk1 s0 (by omega)
          rw [hu] at C
          have HU := Lib.hid hu
          clear hu
          go_wp2_with fail
          refine C.mono ?_
          clear C
          rintro e w3 ⟨v', zs', st', u', rfl, m3, r3, t0, t1, wr3, l3⟩
          obtain ⟨uo', un', uc', rfl⟩ := ownShape' r3.1
          have hs := HW2.out.stepped m3 r3 wr3 hrb (.cells #[.int .i64 size, .slice uo' un' uc', .int .i64 st'] 49)
          clear m3 r3 wr3 l3 y0 y1 y2 y3 y4 g0 g1 g2
          go_upto_region 14 with (fail)
          generalize hW4 : w3.alloc (.cells #[.int .i64 size, .slice uo' un' uc', .int .i64 st'] 49) = W4 at *
          have HN := Lib.hid (show Boxed W4 w3.heap.size (.int .i64 size) (.slice uo' un' uc') (.int .i64 st') by subst hW4; exact Boxed.new _ _ _ _)
          clear hW4
          obtain ⟨hx, hne, hs⟩ := hs
          have hne' : ¬ w3.heap.size = rb := fun e => hne e.symm
          have g0 := hx.c0
          have g1 := hx.c1
          have g2 := hx.c2
          have gf := hx.f
          have q0 := HN.out.c0
          have q1 := HN.out.c1
          have q2 := HN.out.c2
          have HS := Lib.hid hs
          clear hx hs
          go_wp2
          clear g0 g1 g2 gf q0 q1 q2
          generalize ((W4.setCell ⟨rb, 0, none⟩ (.int .i64 size)).setCell ⟨rb, 1, none⟩ (.slice uo' un' uc')).setCell ⟨rb, 2, none⟩ (.int .i64 st') = W5 at *
          have g1 := HS.out.2.1.c1
          have g2 := HS.out.2.1.c2
          have hun : un' = zs'.length := by
            obtain ⟨_, _, e⟩ := ownShape HS.out.2.2.1.1
            simp only [Value.slice.injEq] at e
            exact e.2.1
          subst hun
          have CC := cellsAny HS.out.1.drew
          have hzl : zs'.length ≤ 1000 := by have := HS.out.1.s1; have := HS.out.1.room; omega
          go_region_held3 (fun w' => w'.cell? ⟨rb, 1, none⟩ = some (.slice uo' zs'.length uc') ∧ w'.cell? ⟨rb, 2, none⟩ = some (.int .i64 st')) (first | exact ⟨g1, g2⟩ | exact ⟨i1, i2⟩ | exact ⟨j1, j2⟩) (first
            | (go_at_call 16; refine CC.mono ?_; rintro e w6 ⟨rfl, o6, b6⟩; have h6 := HS.out.drew.fresh b6; have i1 := h6.2.1.c1; have i2 := h6.2.1.c2; have CS := sameEq w6 _ _ zs'.length zs'.length uc' zs' (reads_own o6) (reads_own h6.2.2.1.1) (by omega); have H6 := Lib.hid h6; clear o6 b6 h6)
            | (go_at_call 20; refine CS.mono ?_; rintro e w7 ⟨rfl, b7⟩; have h7 := H6.out.fresh b7; have j1 := h7.2.1.c1; have j2 := h7.2.1.c2; have CT := topAny h7.1; have CP := stepsAny h7.1; have H7 := Lib.hid h7; clear b7 h7)
            | (go_at_call 17; refine CT.mono ?_; rintro e w' ⟨rfl, rfl⟩)
            | (go_at_call 18; refine CP.mono ?_; rintro e w' ⟨rfl, rfl⟩))
          all_goals go_wp2
          go_roundw
          case rel => exact ⟨j + 1, _, _, zs', st', _, by omega, by go_num, rfl, by omega, by omega, H7.out⟩
          case measure => simp [intOf]; omega
        · skip
          go_upto_region 11 with (fail)
          generalize hW1 : wr.alloc (.cells #[.int .u8 k, .int .i64 (m), .int .u8 a, .int .i64 q, .int .i64 x] 52) = W1
          have HW1 := Lib.hid (show Held w rb size p v zs st u W1 by subst hW1; exact HR.out.fresh ((Below.refl _ _).alloc (Nat.le_refl _) _))
          have HD1 := Lib.hid (show Deeded W1 wr.heap.size k (m) a q x by subst hW1; exact heap_alloc_new wr _)
          clear hW1 z0 z1 z2 z3 z4
          have y0 := HD1.out.c0
          have HW2 := HW1
          have HD2 := HD1
          have hk5 : ¬ k % 5 = 4 := hc
          have g0 := HW2.out.2.1.c0
          have g1 := HW2.out.2.1.c1
          have g2 := HW2.out.2.1.c2
          have y1 := HD2.out.c1
          have y2 := HD2.out.c2
          have y3 := HD2.out.c3
          have y4 := HD2.out.c4
          obtain ⟨uo, un, uc, hu⟩ := ownShape' HW2.out.2.2.1.1
          rw [hu] at g1
          have C := stepAny HW2.out.1 HW2.out.2.2.1 k (m) a q x aa0 aa1 kk0 kk1 s0 (by omega)
          rw [hu] at C
          have HU := Lib.hid hu
          clear hu
          go_wp2_with fail
          refine C.mono ?_
          clear C
          rintro e w3 ⟨v', zs', st', u', rfl, m3, r3, t0, t1, wr3, l3⟩
          obtain ⟨uo', un', uc', rfl⟩ := ownShape' r3.1
          have hs := HW2.out.stepped m3 r3 wr3 hrb (.cells #[.int .i64 size, .slice uo' un' uc', .int .i64 st'] 49)
          clear m3 r3 wr3 l3 y0 y1 y2 y3 y4 g0 g1 g2
          go_upto_region 14 with (fail)
          generalize hW4 : w3.alloc (.cells #[.int .i64 size, .slice uo' un' uc', .int .i64 st'] 49) = W4 at *
          have HN := Lib.hid (show Boxed W4 w3.heap.size (.int .i64 size) (.slice uo' un' uc') (.int .i64 st') by subst hW4; exact Boxed.new _ _ _ _)
          clear hW4
          obtain ⟨hx, hne, hs⟩ := hs
          have hne' : ¬ w3.heap.size = rb := fun e => hne e.symm
          have g0 := hx.c0
          have g1 := hx.c1
          have g2 := hx.c2
          have gf := hx.f
          have q0 := HN.out.c0
          have q1 := HN.out.c1
          have q2 := HN.out.c2
          have HS := Lib.hid hs
          clear hx hs
          go_wp2
          clear g0 g1 g2 gf q0 q1 q2
          generalize ((W4.setCell ⟨rb, 0, none⟩ (.int .i64 size)).setCell ⟨rb, 1, none⟩ (.slice uo' un' uc')).setCell ⟨rb, 2, none⟩ (.int .i64 st') = W5 at *
          have g1 := HS.out.2.1.c1
          have g2 := HS.out.2.1.c2
          have hun : un' = zs'.length := by
            obtain ⟨_, _, e⟩ := ownShape HS.out.2.2.1.1
            simp only [Value.slice.injEq] at e
            exact e.2.1
          subst hun
          have CC := cellsAny HS.out.1.drew
          have hzl : zs'.length ≤ 1000 := by have := HS.out.1.s1; have := HS.out.1.room; omega
          go_region_held3 (fun w' => w'.cell? ⟨rb, 1, none⟩ = some (.slice uo' zs'.length uc') ∧ w'.cell? ⟨rb, 2, none⟩ = some (.int .i64 st')) (first | exact ⟨g1, g2⟩ | exact ⟨i1, i2⟩ | exact ⟨j1, j2⟩) (first
            | (go_at_call 16; refine CC.mono ?_; rintro e w6 ⟨rfl, o6, b6⟩; have h6 := HS.out.drew.fresh b6; have i1 := h6.2.1.c1; have i2 := h6.2.1.c2; have CS := sameEq w6 _ _ zs'.length zs'.length uc' zs' (reads_own o6) (reads_own h6.2.2.1.1) (by omega); have H6 := Lib.hid h6; clear o6 b6 h6)
            | (go_at_call 20; refine CS.mono ?_; rintro e w7 ⟨rfl, b7⟩; have h7 := H6.out.fresh b7; have j1 := h7.2.1.c1; have j2 := h7.2.1.c2; have CT := topAny h7.1; have CP := stepsAny h7.1; have H7 := Lib.hid h7; clear b7 h7)
            | (go_at_call 17; refine CT.mono ?_; rintro e w' ⟨rfl, rfl⟩)
            | (go_at_call 18; refine CP.mono ?_; rintro e w' ⟨rfl, rfl⟩))
          all_goals go_wp2
          go_roundw
          case rel => exact ⟨j + 1, _, _, zs', st', _, by omega, by go_num, rfl, by omega, by omega, H7.out⟩
          case measure => simp [intOf]; omega
      · by_cases hc : k % 5 = 4
        · skip
          go_upto_region 11 with (fail)
          generalize hW1 : wr.alloc (.cells #[.int .u8 k, .int .i64 (m % 8), .int .u8 a, .int .i64 q, .int .i64 x] 52) = W1
          have HW1 := Lib.hid (show Held w rb size p v zs st u W1 by subst hW1; exact HR.out.fresh ((Below.refl _ _).alloc (Nat.le_refl _) _))
          have HD1 := Lib.hid (show Deeded W1 wr.heap.size k (m % 8) a q x by subst hW1; exact heap_alloc_new wr _)
          clear hW1 z0 z1 z2 z3 z4
          have y0 := HD1.out.c0
          have CY := copyAny HW1.out.1
          go_wp2_with fail
          refine CY.mono ?_
          clear CY
          rintro e W2 ⟨pq, rfl, mq, bq⟩
          have HW2 := Lib.hid (HW1.out.copied mq bq)
          have HD2 := Lib.hid (show Deeded W2 wr.heap.size k (m % 8) a q x from (bq.block _ HD1.out.lt).trans HD1.out)
          clear mq bq y0
          have y0 := HD2.out.c0
          have g0 := HW2.out.2.1.c0
          have g1 := HW2.out.2.1.c1
          have g2 := HW2.out.2.1.c2
          have y1 := HD2.out.c1
          have y2 := HD2.out.c2
          have y3 := HD2.out.c3
          have y4 := HD2.out.c4
          obtain ⟨uo, un, uc, hu⟩ := ownShape' HW2.out.2.2.1.1
          rw [hu] at g1
          have C := stepAny HW2.out.1 HW2.out.2.2.1 k (m % 8) a q x aa0 aa1 kk0 kk1 s0 (by omega)
          rw [hu] at C
          have HU := Lib.hid hu
          clear hu
          go_wp2_with fail
          refine C.mono ?_
          clear C
          rintro e w3 ⟨v', zs', st', u', rfl, m3, r3, t0, t1, wr3, l3⟩
          obtain ⟨uo', un', uc', rfl⟩ := ownShape' r3.1
          have hs := HW2.out.stepped m3 r3 wr3 hrb (.cells #[.int .i64 size, .slice uo' un' uc', .int .i64 st'] 49)
          clear m3 r3 wr3 l3 y0 y1 y2 y3 y4 g0 g1 g2
          go_upto_region 14 with (fail)
          generalize hW4 : w3.alloc (.cells #[.int .i64 size, .slice uo' un' uc', .int .i64 st'] 49) = W4 at *
          have HN := Lib.hid (show Boxed W4 w3.heap.size (.int .i64 size) (.slice uo' un' uc') (.int .i64 st') by subst hW4; exact Boxed.new _ _ _ _)
          clear hW4
          obtain ⟨hx, hne, hs⟩ := hs
          have hne' : ¬ w3.heap.size = rb := fun e => hne e.symm
          have g0 := hx.c0
          have g1 := hx.c1
          have g2 := hx.c2
          have gf := hx.f
          have q0 := HN.out.c0
          have q1 := HN.out.c1
          have q2 := HN.out.c2
          have HS := Lib.hid hs
          clear hx hs
          go_wp2
          clear g0 g1 g2 gf q0 q1 q2
          generalize ((W4.setCell ⟨rb, 0, none⟩ (.int .i64 size)).setCell ⟨rb, 1, none⟩ (.slice uo' un' uc')).setCell ⟨rb, 2, none⟩ (.int .i64 st') = W5 at *
          have g1 := HS.out.2.1.c1
          have g2 := HS.out.2.1.c2
          have hun : un' = zs'.length := by
            obtain ⟨_, _, e⟩ := ownShape HS.out.2.2.1.1
            simp only [Value.slice.injEq] at e
            exact e.2.1
          subst hun
          have CC := cellsAny HS.out.1.drew
          have hzl : zs'.length ≤ 1000 := by have := HS.out.1.s1; have := HS.out.1.room; omega
          go_region_held3 (fun w' => w'.cell? ⟨rb, 1, none⟩ = some (.slice uo' zs'.length uc') ∧ w'.cell? ⟨rb, 2, none⟩ = some (.int .i64 st')) (first | exact ⟨g1, g2⟩ | exact ⟨i1, i2⟩ | exact ⟨j1, j2⟩) (first
            | (go_at_call 16; refine CC.mono ?_; rintro e w6 ⟨rfl, o6, b6⟩; have h6 := HS.out.drew.fresh b6; have i1 := h6.2.1.c1; have i2 := h6.2.1.c2; have CS := sameEq w6 _ _ zs'.length zs'.length uc' zs' (reads_own o6) (reads_own h6.2.2.1.1) (by omega); have H6 := Lib.hid h6; clear o6 b6 h6)
            | (go_at_call 20; refine CS.mono ?_; rintro e w7 ⟨rfl, b7⟩; have h7 := H6.out.fresh b7; have j1 := h7.2.1.c1; have j2 := h7.2.1.c2; have CT := topAny h7.1; have CP := stepsAny h7.1; have H7 := Lib.hid h7; clear b7 h7)
            | (go_at_call 17; refine CT.mono ?_; rintro e w' ⟨rfl, rfl⟩)
            | (go_at_call 18; refine CP.mono ?_; rintro e w' ⟨rfl, rfl⟩))
          all_goals go_wp2
          go_roundw
          case rel => exact ⟨j + 1, _, _, zs', st', _, by omega, by go_num, rfl, by omega, by omega, H7.out⟩
          case measure => simp [intOf]; omega
        · skip
          go_upto_region 11 with (fail)
          generalize hW1 : wr.alloc (.cells #[.int .u8 k, .int .i64 (m % 8), .int .u8 a, .int .i64 q, .int .i64 x] 52) = W1
          have HW1 := Lib.hid (show Held w rb size p v zs st u W1 by subst hW1; exact HR.out.fresh ((Below.refl _ _).alloc (Nat.le_refl _) _))
          have HD1 := Lib.hid (show Deeded W1 wr.heap.size k (m % 8) a q x by subst hW1; exact heap_alloc_new wr _)
          clear hW1 z0 z1 z2 z3 z4
          have y0 := HD1.out.c0
          have HW2 := HW1
          have HD2 := HD1
          have hk5 : ¬ k % 5 = 4 := hc
          have g0 := HW2.out.2.1.c0
          have g1 := HW2.out.2.1.c1
          have g2 := HW2.out.2.1.c2
          have y1 := HD2.out.c1
          have y2 := HD2.out.c2
          have y3 := HD2.out.c3
          have y4 := HD2.out.c4
          obtain ⟨uo, un, uc, hu⟩ := ownShape' HW2.out.2.2.1.1
          rw [hu] at g1
          have C := stepAny HW2.out.1 HW2.out.2.2.1 k (m % 8) a q x aa0 aa1 kk0 kk1 s0 (by omega)
          rw [hu] at C
          have HU := Lib.hid hu
          clear hu
          go_wp2_with fail
          refine C.mono ?_
          clear C
          rintro e w3 ⟨v', zs', st', u', rfl, m3, r3, t0, t1, wr3, l3⟩
          obtain ⟨uo', un', uc', rfl⟩ := ownShape' r3.1
          have hs := HW2.out.stepped m3 r3 wr3 hrb (.cells #[.int .i64 size, .slice uo' un' uc', .int .i64 st'] 49)
          clear m3 r3 wr3 l3 y0 y1 y2 y3 y4 g0 g1 g2
          go_upto_region 14 with (fail)
          generalize hW4 : w3.alloc (.cells #[.int .i64 size, .slice uo' un' uc', .int .i64 st'] 49) = W4 at *
          have HN := Lib.hid (show Boxed W4 w3.heap.size (.int .i64 size) (.slice uo' un' uc') (.int .i64 st') by subst hW4; exact Boxed.new _ _ _ _)
          clear hW4
          obtain ⟨hx, hne, hs⟩ := hs
          have hne' : ¬ w3.heap.size = rb := fun e => hne e.symm
          have g0 := hx.c0
          have g1 := hx.c1
          have g2 := hx.c2
          have gf := hx.f
          have q0 := HN.out.c0
          have q1 := HN.out.c1
          have q2 := HN.out.c2
          have HS := Lib.hid hs
          clear hx hs
          go_wp2
          clear g0 g1 g2 gf q0 q1 q2
          generalize ((W4.setCell ⟨rb, 0, none⟩ (.int .i64 size)).setCell ⟨rb, 1, none⟩ (.slice uo' un' uc')).setCell ⟨rb, 2, none⟩ (.int .i64 st') = W5 at *
          have g1 := HS.out.2.1.c1
          have g2 := HS.out.2.1.c2
          have hun : un' = zs'.length := by
            obtain ⟨_, _, e⟩ := ownShape HS.out.2.2.1.1
            simp only [Value.slice.injEq] at e
            exact e.2.1
          subst hun
          have CC := cellsAny HS.out.1.drew
          have hzl : zs'.length ≤ 1000 := by have := HS.out.1.s1; have := HS.out.1.room; omega
          go_region_held3 (fun w' => w'.cell? ⟨rb, 1, none⟩ = some (.slice uo' zs'.length uc') ∧ w'.cell? ⟨rb, 2, none⟩ = some (.int .i64 st')) (first | exact ⟨g1, g2⟩ | exact ⟨i1, i2⟩ | exact ⟨j1, j2⟩) (first
            | (go_at_call 16; refine CC.mono ?_; rintro e w6 ⟨rfl, o6, b6⟩; have h6 := HS.out.drew.fresh b6; have i1 := h6.2.1.c1; have i2 := h6.2.1.c2; have CS := sameEq w6 _ _ zs'.length zs'.length uc' zs' (reads_own o6) (reads_own h6.2.2.1.1) (by omega); have H6 := Lib.hid h6; clear o6 b6 h6)
            | (go_at_call 20; refine CS.mono ?_; rintro e w7 ⟨rfl, b7⟩; have h7 := H6.out.fresh b7; have j1 := h7.2.1.c1; have j2 := h7.2.1.c2; have CT := topAny h7.1; have CP := stepsAny h7.1; have H7 := Lib.hid h7; clear b7 h7)
            | (go_at_call 17; refine CT.mono ?_; rintro e w' ⟨rfl, rfl⟩)
            | (go_at_call 18; refine CP.mono ?_; rintro e w' ⟨rfl, rfl⟩))
          all_goals go_wp2
          go_roundw
          case rel => exact ⟨j + 1, _, _, zs', st', _, by omega, by go_num, rfl, by omega, by omega, H7.out⟩
          case measure => simp [intOf]; omega
    · clear HD
      go_wp2
      go_ret
      exact ⟨rfl, HR.out.2.2.2⟩

set_option maxHeartbeats 1600000 in
theorem doesWalk {w : World} (n kk : Int) (ao : Option Addr) (len cap : Nat) (_ : Unit) (_ : -9223372036854775808 ≤ n) (_ : n ≤ 9223372036854775807) (k0 : 0 ≤ kk) (k1 : kk ≤ 255) (hd : Deeds w ao len) :
    Calls Try.prog 3 #[.int .i64 n, .int .u8 kk, .slice ao len cap] w fun e w' => e = .returned (.bool true) ∧ Below w.heap.size w w' := by
  have hm := hd.1
  unfold maxLen at hm
  have HD := Lib.hid hd
  clear hd
  by_cases hl : 40 < len
  · go_enter Try.func3, Try.ntmps3
    go_wp2_with (go_at_call 9; refine (known _).mono ?_; rintro e w1 ⟨rfl, b1⟩; have HB1 := Lib.hid b1; clear b1)
    go_ret
    exact ⟨rfl, HB1.out⟩
  · go_enter Try.func3, Try.ntmps3
    go_wp2_with fail
    refine (known _).mono ?_
    rintro e w1 ⟨rfl, b1⟩
    have HB1 := Lib.hid b1
    clear b1
    go_wp2_with fail
    refine (doesTrue n ao len cap (HD.out.keep HB1.out) (by omega)).mono ?_
    rintro e w2 ⟨rfl, b2⟩
    have HB2 := Lib.hid (HB1.out.trans (b2.mono HB1.out.size))
    clear b2
    go_wp2_with fail
    refine (doesTrue (kk % 20) ao len cap (HD.out.keep HB2.out) (by omega)).mono ?_
    rintro e w3 ⟨rfl, b3⟩
    have HB3 := Lib.hid (HB2.out.trans (b3.mono HB2.out.size))
    clear b3
    go_wp2
    go_ret
    exact ⟨by simp, HB3.out⟩

end Go.Proofs.Yteebmcldmiemnaa
