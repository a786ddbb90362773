/-
  The walk of ListGrows: for all lists of bytes it answers true and leaves all old memory as it was.
-/
import Derived.Test.YtllgcnljpehgeaaGrwQ14m
import Derived.Test.YtllgcnljpehgeaaRchR14m
import Derived.Test.YtllgcnljpehgeaaStaleWalk14m
namespace Go.Proofs.Ytllgcnljpehgeaa.M2
open Go.RowKit

section
variable {W W' : World} {B p : Nat} {size st : Int} {zs xs : List Int} {v : Value} {b : Nat}

theorem loadK (h : Mem1 W B p size zs st) (a : Int) (h0 : 0 ≤ a) (h1 : a < zs.length) (k0 : 0 ≤ st) (k1 : st < 1000000) :
    Calls Try.prog 25 #[.pointer (some ⟨p, 0, none⟩), .int .i64 a] W fun e w' => e = .returned (.tuple #[.int .i64 (zs.getD a.toNat 0), .int .u16 0]) ∧ Mem1 w' B p size zs (st + 1) ∧ Below B W w' ∧ Kept W w' := by
  obtain ⟨v, m⟩ := h
  exact (loadIn m a h0 h1 k0 k1).mono fun e w' ⟨he, d⟩ => ⟨he, (d.one m).1, (d.one m).2, d.kept m⟩

/-- A list of int of one's own. -/
def RW (b : Nat) (v : Value) (xs : List Int) (W : World) : Prop := W.ownsRow b 3 1 v xs.length (xs.map (Value.int .i64))
theorem RW.kept (h : RW b v xs W) (k : Kept W W') : RW b v xs W' := _root_.Go.Proofs.Ytllgcnljpehgeaa.own_keep h fun g hg => by
  obtain ⟨cs, e, _⟩ := LB.row h g hg
  rw [e]
  exact k _ _ _ e (by decide) (by decide)
theorem RW.fresh (h : RW b v xs W) (k : Below W.heap.size W W') : RW b v xs W' := h.kept (keptOf k)
theorem RW.shape (h : RW b v xs W) : ∃ ao cap, v = .slice ao xs.length cap := by
  rcases h.2 with ⟨rfl, e⟩ | ⟨g, cap, cur, rfl, _⟩
  · exact ⟨none, 0, by rw [e]⟩
  · exact ⟨_, cap, rfl⟩

theorem RW.reads {ao : Option Addr} {n cap : Nat} (h : RW b (.slice ao n cap) xs W) : Reads .i64 W ao n xs := by
  obtain ⟨ao', cp, e, hr, _, _⟩ := _root_.Go.Proofs.Ytllgcnljpehgeaa.reads_own h
  simp only [Value.slice.injEq] at e
  obtain ⟨rfl, rfl, rfl⟩ := e
  exact hr

/-- A row of int grows: the memory is no such row. -/
theorem Mem1.grownI (h : Mem1 W B p size zs st) (hr : RW b v xs W) (hg : W.grownBy W' v.ownBlock) : Mem1 W' B p size zs st := by
  obtain ⟨u, m⟩ := h
  have hne : ∀ (k : Nat) (cs : Array Value) (t : TypeId), W.heap[k]? = some (Obj.cells cs t (0, 0)) → t ≠ 3 → W'.heap[k]? = W.heap[k]? := fun k cs t e ht => hg.block k (lt_of_block e) (fun e2 => by
    obtain ⟨cs', e', _⟩ := LB.row hr k e2.symm
    rw [e] at e'
    simp only [Option.some.injEq, Obj.cells.injEq] at e'
    exact ht e'.2.1)
  refine ⟨u, m.keep (hne _ _ _ m.block (by decide)) (fun g hgu => ?_)⟩
  rcases m.own.2 with ⟨rfl, _⟩ | ⟨g', cap, cur, rfl, _, hg', _⟩
  · simp [Value.ownBlock] at hgu
  · simp only [Value.ownBlock, Option.some.injEq] at hgu
    subst hgu
    exact hne _ _ _ hg' (by decide)
theorem RW.low (h : RW b v xs W) (k : Nat) (e : v.ownBlock = some k) : b ≤ k := by
  obtain ⟨_, _, h3⟩ := LB.row h k e
  exact h3
end

/-- A memory made behind V. -/
structure GM (V : World) (p L : Nat) (zs : List Int) (st : Int) (W : World) : Prop where
  me : Mem1 W V.heap.size p (L : Int) zs st
  v : Below V.heap.size V W
theorem GM.fresh {V W W' : World} {p L : Nat} {zs : List Int} {st : Int} (h : GM V p L zs st W) (hb : Below W.heap.size W W') : GM V p L zs st W' := ⟨h.me.keep hb, h.v.trans (hb.mono h.v.size)⟩
theorem GM.to {V W W' : World} {p L : Nat} {zs zs' : List Int} {st st' : Int} (h : GM V p L zs st W) (hm : Mem1 W' V.heap.size p (L : Int) zs' st') (hb : Below V.heap.size W W') : GM V p L zs' st' W' := ⟨hm, h.v.trans hb⟩
theorem GM.grownI {V W W' : World} {p L : Nat} {zs xs : List Int} {st : Int} {v : Value} (h : GM V p L zs st W) (hr : RW V.heap.size v xs W) (hg : W.grownBy W' v.ownBlock) : GM V p L zs st W' := ⟨h.me.grownI hr hg, h.v.grown hg h.v.size (fun k e => hr.low k e)⟩

/-- What holds at each round's head: nothing is taken on yet, or one is. -/
def GR (V : World) (p L n : Nat) (os : List Nat) (zs : List Int) (gv av : Value) (W : World) : Prop :=
  ∃ (q A : Nat) (gs : List Nat) (ws : List Int) (st : Int), q ≤ n ∧ A = 3 + 5 * q ∧ av = .int .i64 (A : Int) ∧ RW V.heap.size gv (ints gs) W ∧ GM V p L ws st W ∧ Ok n (gs ++ os) ws ∧ (gs.length ≤ 1 ∧ 0 ≤ st ∧ st ≤ 49 + 3 * (gs.length : Int)) ∧ (gs = [] → gv = .slice none 0 0 ∧ ws = zs)

set_option maxRecDepth 100000 in
set_option maxHeartbeats 16000000 in
theorem growsWalk {w : World} (ac : Option Addr) (nc cc : Nat) (xs : List Int) (many at0 : Int) (hx : ArgBytes w ac nc cc xs) (hnc : nc ≤ 140737488351232) (k0 : 0 ≤ many) (k1 : many ≤ 255) (j0 : 0 ≤ at0) (j1 : at0 ≤ 255) :
    Calls Try.prog 7 #[.slice ac nc cc, .int .u8 many, .int .u8 at0] w fun e w' => e = .returned (.bool true) ∧ Below w.heap.size w w' := by
  obtain ⟨i0, hi, hz0, hz1, hz2⟩ := info_parts infoInt
  have C := chainAny w ac nc cc xs hx hnc (many % 9) (by omega) (by omega)
  clear hx
  go_enter Try.func7, Try.ntmps7
  go_wp2_with fail
  refine C.mono ?_
  clear C
  rintro e w1 ⟨n, os, zs, gl, g, c, rfl, ⟨hn1, hn9⟩, hol, hos, hch, hlw, hbl, hgl, hoc⟩
  have hzl := hch.len
  have hle := hos.le
  obtain ⟨L, hL⟩ : ∃ L, 3 + 5 * n = L := ⟨_, rfl⟩
  obtain ⟨m, hm⟩ : ∃ m, os.length = m := ⟨_, rfl⟩
  have hzL : zs.length = L := by omega
  have HLr := Lib.hid (show Reads .i64 w1 (some ⟨gl, 0, none⟩) L zs by have := hlw.1.reads; rwa [hzL] at this)
  have HOr := Lib.hid (show Reads .i64 w1 (some ⟨g, 0, none⟩) m (ints os) by have := hlw.2.1; rwa [hm] at this)
  have HB := Lib.hid hlw.2.2
  have HOk := Lib.hid (Ok.start hch hos)
  have HM := Lib.hid hm
  have HN := Lib.hid (show (1 ≤ n ∧ n ≤ 9) ∧ m ≤ n ∧ 3 + 5 * n = L ∧ m ≤ c by omega)
  have HZ := Lib.hid hzL
  have C := memoryAny w1 (some ⟨gl, 0, none⟩) L L zs HLr.out (by omega)
  rw [hm, hL]
  clear hch hlw hos hol hzl hbl hgl hoc hle hL hm hzL hn1 hn9
  go_wp2_with fail
  refine C.mono ?_
  clear C
  rintro e w2 ⟨p, u, rfl, m2, o2, b2⟩
  obtain ⟨au, cu, rfl⟩ := ownShape o2
  rw [HZ.out] at m2 ⊢
  have S2 := Lib.hid (show GM w1 p L zs (1 + (L : Int)) w2 from ⟨m2, b2⟩)
  clear m2 o2 b2
  go_upto_region 3 with (fail)
  generalize hW3 : w2.alloc (.cells #[.int .i64 (L : Int), .slice au L cu, .int .i64 (1 + (L : Int))] 33) = W3
  have f3 : Below w2.heap.size w2 W3 := by subst hW3; exact (Below.refl _ _).alloc (Nat.le_refl _) _
  have S3 := Lib.hid (S2.out.fresh f3)
  clear f3 hW3 S2
  go_wp2
  go_loopw [11, 12] (fun gv av wr => GR w1 p L n os zs gv av wr) (fun _ av _ => 100 - (intOf av).toNat)
  case atStart => exact ⟨0, 3, [], zs, _, Nat.zero_le _, rfl, rfl, World.ownsRow_nil _ _ _ _, S3.out, HOk.out, ⟨by simp, by omega, by have := HN.out; simp; omega⟩, fun _ => ⟨rfl, rfl⟩⟩
  case round =>
    obtain ⟨q, A, gs, ws, st, hq, hA, rfl, hR, hG, hO, hgs, hnil⟩ := hrel
    obtain ⟨V, rfl⟩ : ∃ V, V = wr := ⟨_, rfl⟩
    obtain ⟨ag, cg, rfl⟩ := hR.shape
    obtain ⟨s, hs⟩ : ∃ s, gs.length = s := ⟨_, rfl⟩
    rw [ints_len, hs] at hR hnil ⊢
    rw [hs] at hgs
    have HR := Lib.hid hR
    have HG := Lib.hid hG
    have HO := Lib.hid hO
    have HGS := Lib.hid hgs
    have HNil := Lib.hid hnil
    have HA := Lib.hid (And.intro hA hq)
    have HS := Lib.hid hs
    have a9 : (A : Int) ≤ 48 := by have := HN.out; omega
    have s9 : (s : Int) ≤ 1 := by omega
    by_cases hlt : q < n
    · have l0 : (A : Int) < L := by have := HN.out; omega
      have HLT := Lib.hid hlt
      clear hR hG hO hgs hnil hA hq hs hlt S3
      go_wp2
      go_loopw [13, 14] (fun ov jv wx => ∃ j : Nat, j ≤ m ∧ jv = .int .i64 (j : Int) ∧ ov = .bool (decide (A ∈ os.take j)) ∧ Hid (V = wx)) (fun _ jv _ => m - (intOf jv).toNat)
      case atStart => exact ⟨0, Nat.zero_le _, rfl, by simp, rfl⟩
      case round =>
        obtain ⟨j, hj, rfl, rfl, hw⟩ := hrel
        have hw : V = wr := hw
        subst hw
        have m9 : (m : Int) ≤ 9 := by have := HN.out; omega
        by_cases hj2 : j < m
        · have c1 := onAt (HOr.out.keep HG.out.v) HM.out hj2
          have HT := Lib.hid (take_next (ps := os) (k := j) (by rw [HM.out]; exact hj2))
          have HJ := Lib.hid hj2
          have i1 : (j : Int) < m := by omega
          obtain ⟨d, hd⟩ : ∃ d, os.getD j 0 = d := ⟨_, rfl⟩
          rw [hd] at c1 HT
          clear hd hj2 hj
          by_cases hin : A ∈ os.take j
          · have HI := Lib.hid hin
            rw [decide_eq_true hin]
            clear hin
            go_wp2
            go_roundw
            case rel => exact ⟨j + 1, HJ.out, by go_num, by rw [HT.out]; simp [HI.out], Lib.hid trivial⟩
            case measure => have := HJ.out; simp [intOf]; omega
          · have HI := Lib.hid hin
            rw [decide_eq_false hin]
            clear hin
            by_cases he : d = A
            · subst he
              go_wp2
              go_roundw
              case rel => exact ⟨j + 1, HJ.out, by go_num, by rw [HT.out]; simp, Lib.hid trivial⟩
              case measure => have := HJ.out; simp [intOf]; omega
            · have he2 : ((d : Int) == (A : Int)) = false := by simpa using (show ¬ (d : Int) = A by omega)
              have HE := Lib.hid (show ¬ A = d from fun e => he e.symm)
              clear he
              go_wp2
              go_roundw
              case rel => exact ⟨j + 1, HJ.out, by go_num, by rw [HT.out]; simp [HI.out, HE.out], Lib.hid trivial⟩
              case measure => have := HJ.out; simp [intOf]; omega
        · have i1 : (m : Int) ≤ j := by omega
          have htk : os.take j = os := List.take_of_length_le (by rw [HM.out]; omega)
          rw [htk]
          clear htk hj2 hj
          by_cases hin : A ∈ os
          · rw [decide_eq_true hin]
            clear hin
            go_wp2
            go_roundw
            case rel => exact ⟨q + 1, A + 5, gs, ws, st, HLT.out, by have := HA.out; omega, by go_num, HR.out, HG.out, HO.out, by rw [HS.out]; exact HGS.out, HNil.out⟩
            case measure => simp [intOf]; omega
          · have HI := Lib.hid hin
            rw [decide_eq_false hin]
            clear hin
            by_cases h1 : s = 1
            · subst h1
              go_wp2
              go_roundw
              case rel => exact ⟨q + 1, A + 5, gs, ws, st, HLT.out, by have := HA.out; omega, by go_num, HR.out, HG.out, HO.out, by rw [HS.out]; exact HGS.out, HNil.out⟩
              case measure => simp [intOf]; omega
            · have h0 : s = 0 := by omega
              subst h0
              have hg0 : gs = [] := List.eq_nil_of_length_eq_zero HS.out
              subst hg0
              obtain ⟨he, rfl⟩ := HNil.out rfl
              simp only [Value.slice.injEq] at he
              obtain ⟨rfl, _, rfl⟩ := he
              have HO1 := Lib.hid (show Ok n os ws from HO.out)
              have hst := HGS.out
              have hAq := HA.out
              have hNN := HN.out
              have hZZ := HZ.out
              have c1 := cellAt (HLr.out.keep HG.out.v) (i := 1) (by omega)
              obtain ⟨z1, hz1'⟩ : ∃ z, ws.getD 1 0 = z := ⟨_, rfl⟩
              rw [hz1'] at c1
              obtain ⟨A3, hA3⟩ : ∃ d, A + 3 = d := ⟨_, rfl⟩
              obtain ⟨A1, hA1⟩ : ∃ d, A + 1 = d := ⟨_, rfl⟩
              have q3 : IntKind.i64.wrap ((A : Int) + 3) = (A3 : Int) := by rw [show (A : Int) + 3 = A3 by omega]; exact IntWalk.i64_in _ (by omega)
              have q1 : IntKind.i64.wrap ((A : Int) + 1) = (A1 : Int) := by rw [show (A : Int) + 1 = A1 by omega]; exact IntWalk.i64_in _ (by omega)
              have HP := Lib.hid (show ((ws.set A3 z1).set A1 2).set 1 (A : Int) = pushZ ws q by
                unfold pushZ
                rw [← hA3, ← hA1, ← hz1', hAq.1]
                simp)
              have C1 := storeK HG.out.me (A3 : Int) z1 (by omega) (by omega) hst.2.1 (by omega)
              have l1 : (1 : Int) < L := by omega
              have HL3 := Lib.hid (show A3 < L ∧ A1 < L ∧ 0 ≤ st ∧ st ≤ 49 by omega)
              clear hst hAq hNN hZZ hz1' hA3 hA1 h1
              go_wp2_with fail
              refine C1.mono ?_
              clear C1
              rintro e V1 ⟨rfl, m1, b1, _⟩
              rw [Int.toNat_natCast] at m1
              have G1 := Lib.hid (HG.out.to m1 b1)
              clear m1 b1
              have C1 := storeK G1.out.me (A1 : Int) 2 (by omega) (by rw [List.length_set, HZ.out]; have := HL3.out; omega) (by have := HL3.out; omega) (by have := HL3.out; omega)
              go_wp2_with fail
              refine C1.mono ?_
              clear C1
              rintro e V2 ⟨rfl, m1, b1, _⟩
              rw [Int.toNat_natCast] at m1
              have G2 := Lib.hid (G1.out.to m1 b1)
              clear m1 b1
              have C1 := storeK G2.out.me 1 (A : Int) (by omega) (by rw [List.length_set, List.length_set, HZ.out]; have := HL3.out; omega) (by have := HL3.out; omega) (by have := HL3.out; omega)
              go_wp2_with fail
              refine C1.mono ?_
              clear C1
              rintro e V3 ⟨rfl, m1, b1, _⟩
              rw [show (1 : Int).toNat = 1 from rfl, HP.out] at m1
              have G3 := Lib.hid (G2.out.to m1 b1)
              clear m1 b1 G1 G2 c1
              go_wp2_with (at_builtin; refine wpList_append_later rfl (.tmp 81) (.tmp 83) 28 rfl w1.heap.size 3 i0 _ 1 8 Try.underlying28 hi hz0 hz1 hz2 rfl (by decide) (.slice none 0 0) 0 [] rfl (World.ownsRow_nil _ _ _ _) ⟨V3.heap.size, 0, none⟩ 1 1 [.int .i64 (A : Int)] rfl rfl (by intro j u hu; cases j <;> simp at hu; subst hu; go_simp) (by intro u hu; simp at hu; subst hu; rfl) (by simp only [maxLen]; omega) (by omega) (by have := G3.out.v.size; simp; omega) ?_; intro v4 V4 q4 g4 _; have G4 := Lib.hid (G3.out.fresh (((Below.refl _ V3).alloc (Nat.le_refl _) _).grown g4 (by simp) (fun k e => by simp [Value.ownBlock] at e))); have R4 := Lib.hid (show RW w1.heap.size v4 (ints [A]) V4 by simpa [RW, ints] using q4); obtain ⟨a4, c4, rfl⟩ := _root_.Go.Proofs.Ytllgcnljpehgeaa.ownShape q4; clear q4 g4)
              go_roundw
              case rel => exact ⟨q + 1, A + 5, [A], pushZ ws q, _, HLT.out, by have := HA.out; omega, by go_num, R4.out, G4.out, by have h := HO1.out.push HLT.out (by rw [← HA.out.1]; exact HI.out); rw [← HA.out.1] at h; exact h, ⟨by simp, by have := HL3.out; omega, by have := HL3.out; simp; omega⟩, fun h => by cases h⟩
              case measure => simp [intOf]; omega
    · have l0 : (L : Int) ≤ A := by have := HN.out; omega
      obtain ⟨ps, hps⟩ : ∃ ps, gs ++ os = ps := ⟨_, rfl⟩
      obtain ⟨K, hK⟩ : ∃ K, s + m = K := ⟨_, rfl⟩
      have hpl : ps.length = K := by rw [← hps, List.length_append, hs, HM.out, hK]
      have HPs := Lib.hid (show Ok n ps ws from hps ▸ hO)
      have hpn := HPs.out.os.le
      have HRow := Lib.hid (show V.ownsRow w1.heap.size 3 1 (.slice ag s cg) s ((ints gs).map (Value.int .i64)) by have := HR.out; unfold RW at this; rwa [ints_len, hs] at this)
      have HC2 := Lib.hid (show (ints gs).map (Value.int .i64) ++ (ints os).map (Value.int .i64) = (ints ps).map (Value.int .i64) by rw [← hps]; simp [ints])
      have HKs := Lib.hid (And.intro hK hpl)
      have HST := Lib.hid (show 0 ≤ st ∧ st ≤ 60 by omega)
      have k9 : (K : Int) ≤ 9 := by have := HN.out; omega
      have HSrc := Lib.hid (HOr.out.keep HG.out.v)
      clear hR hG hO hgs hnil hA hq hs hlt S3 hps hK hpl hpn HO HNil HOk HGS
      go_upto_region 20 with (at_builtin; refine wpList_append_src _ rfl (.tmp 85) (.tmp 86) 28 rfl w1.heap.size 3 i0 _ 1 8 Try.underlying28 hi hz0 hz1 hz2 rfl (by decide) _ _ _ rfl HRow.out _ _ _ ((ints os).map (Value.int .i64)) rfl (by rw [List.length_map, ints_len, HM.out, Nat.mul_one]) (reads_src HSrc.out) (ints_oneCell _ _) (by simp only [maxLen]; have := HKs.out; omega) (by have := HKs.out; omega) HG.out.v.size ?_; intro v4 V4 q4 g4; have G4 := Lib.hid (HG.out.grownI HR.out g4); rw [HC2.out, HKs.out.1] at q4; have R4 := Lib.hid (show RW w1.heap.size v4 (ints ps) V4 by unfold RW; rw [ints_len, HKs.out.2]; exact q4); obtain ⟨a4, c4, rfl⟩ := _root_.Go.Proofs.Ytllgcnljpehgeaa.ownShape q4; clear q4 g4)
      clear HRow HC2 HSrc HR HG
      have C := reachAny G4.out.me HPs.out.path
      go_wp2_with fail
      refine C.mono ?_
      clear C
      rintro e V5 ⟨v, rfl, hv⟩
      simp only [Bool.false_eq_true, if_false, Bool.not_false] at hv ⊢
      obtain ⟨a5, c5, rfl, r5, b5⟩ := hv
      rw [ints_len, HKs.out.2] at r5 ⊢
      have G5 := Lib.hid (G4.out.fresh b5)
      have R5 := Lib.hid (R4.out.fresh b5)
      have C := intsEq V5 a5 a4 K c5 c4 (ints ps) r5 R5.out.reads (by omega)
      clear r5 b5 G4 R4
      go_wp2_with fail
      refine C.mono ?_
      clear C
      rintro e V6 ⟨rfl, b6⟩
      have G6 := Lib.hid (G5.out.fresh b6)
      have R6 := Lib.hid (R5.out.fresh b6)
      have C := soundAny G6.out.me HPs.out.path
      rw [HPs.out.sound] at C
      clear b6 G5 R5
      go_wp2_with fail
      refine C.mono ?_
      clear C
      rintro e V7 ⟨rfl, b7⟩
      have G7 := Lib.hid (G6.out.fresh b7)
      have R7 := Lib.hid (R6.out.fresh b7)
      clear b7 G6 R6
      by_cases hK2 : K < 2
      · have k2 : (K : Int) < 2 := by omega
        have C := known V7
        go_wp2_with fail
        refine C.mono ?_
        clear C
        rintro e V8 ⟨rfl, b8⟩
        have B8 := Lib.hid (HB.out.trans ((G7.out.fresh b8).v.mono HB.out.size))
        clear b8
        go_wp2
        go_ret
        exact ⟨rfl, B8.out⟩
      · have k2 : (2 : Int) ≤ K := by omega
        rcases R7.out.2 with ⟨_, hnil⟩ | ⟨g2, cap, cur, e2, hbg, hg, _⟩
        · rw [ints_len, HKs.out.2] at hnil; omega
        rw [ints_len, HKs.out.2] at e2
        simp only [Value.slice.injEq] at e2
        obtain ⟨rfl, _, rfl⟩ := e2
        obtain ⟨D, hD⟩ : ∃ D, K - 1 = D := ⟨_, rfl⟩
        have hq0 := Int.emod_nonneg at0 (show (D : Int) ≠ 0 by omega)
        have hq1 := Int.emod_lt_of_pos at0 (show (0 : Int) < (D : Int) by omega)
        obtain ⟨r, hr⟩ : ∃ r : Nat, at0 % (D : Int) = (r : Int) := ⟨(at0 % (D : Int)).toNat, by omega⟩
        obtain ⟨T, hT⟩ : ∃ T, 1 + r = T := ⟨_, rfl⟩
        have hT1 : 1 ≤ T := by omega
        have hTK : T < K := by omega
        obtain ⟨T1, hT1'⟩ : ∃ T1, T - 1 = T1 := ⟨_, rfl⟩
        obtain ⟨T2, hT2⟩ : ∃ T2, T + 1 = T2 := ⟨_, rfl⟩
        have hKl := HKs.out.2
        obtain ⟨jx, hjx, ex⟩ := HPs.out.os.at (t := T) (by omega)
        obtain ⟨jy, hjy, ey⟩ := HPs.out.os.at (t := T1) (by omega)
        have hcut := HPs.out.cut hT1 (show T < ps.length by omega)
        have hcl := cutP_len (ps := ps) (t := T) (by omega)
        obtain ⟨X, hX⟩ : ∃ X, ps.getD T 0 = X := ⟨_, rfl⟩
        obtain ⟨Y, hY⟩ : ∃ Y, ps.getD T1 0 = Y := ⟨_, rfl⟩
        obtain ⟨X3, hX3⟩ : ∃ X3, X + 3 = X3 := ⟨_, rfl⟩
        obtain ⟨X1, hX1⟩ : ∃ X1, X + 1 = X1 := ⟨_, rfl⟩
        obtain ⟨Y3, hY3⟩ : ∃ Y3, Y + 3 = Y3 := ⟨_, rfl⟩
        obtain ⟨nx, hnx⟩ : ∃ nx, ws.getD X3 0 = nx := ⟨_, rfl⟩
        have hcz : cutZ ws ps T = (ws.set X (-1)).set Y3 nx := by unfold cutZ; rw [hT1', hX, hY, hX3, hY3, hnx]
        rw [hcz, hX] at hcut
        have hzero := hcut.1.zero (q := jx) hjx (by have := hcut.2; rwa [← hX, ex] at this)
        rw [show 3 + 5 * jx + 1 = X1 by omega] at hzero
        have HCut := Lib.hid hcut.1
        have HZero := Lib.hid hzero
        have HCL := Lib.hid (show (cutP ps T).length = D by omega)
        have hwl : ws.length = L := by have := HPs.out.len; have := HN.out; omega
        have HWL := Lib.hid hwl
        have HL9 := Lib.hid (show (X < L ∧ X3 < L ∧ X1 < L ∧ Y3 < L) ∧ (T < K ∧ T1 < K ∧ T ≤ K ∧ T2 ≤ K ∧ T + (K - T2) = D) ∧ L ≤ 48 by have := HN.out; omega)
        have HCell := Lib.hid (fun (W : World) (h : RW w1.heap.size (.slice (some ⟨g2, 0, none⟩) K c4) (ints ps) W) => rowCells (od := ps) (k := K) (by unfold RW at h; rwa [ints_len, HKs.out.2] at h) HKs.out.2)
        have HXY := Lib.hid (fun (W : World) (h : RW w1.heap.size (.slice (some ⟨g2, 0, none⟩) K c4) (ints ps) W) => (show W.cell? ⟨g2, T, none⟩ = some (.int .i64 (X : Int)) ∧ W.cell? ⟨g2, T1, none⟩ = some (.int .i64 (Y : Int)) from
          ⟨by rw [(HCell.out W h).1 T HL9.out.2.1.1, hX], by rw [(HCell.out W h).1 T1 HL9.out.2.1.2.1, hY]⟩))
        have p1 : IntKind.i64.wrap ((K : Int) - 1) = (D : Int) := by rw [show (K : Int) - 1 = D by omega]; exact IntWalk.i64_in _ (by omega)
        have p2 : IntKind.i64.wrap (1 + (r : Int)) = (T : Int) := by rw [show 1 + (r : Int) = T by omega]; exact IntWalk.i64_in _ (by omega)
        have p3 : IntKind.i64.wrap ((T : Int) - 1) = (T1 : Int) := by rw [show (T : Int) - 1 = T1 by omega]; exact IntWalk.i64_in _ (by omega)
        have p4 : IntKind.i64.wrap ((T : Int) + 1) = (T2 : Int) := by rw [show (T : Int) + 1 = T2 by omega]; exact IntWalk.i64_in _ (by omega)
        have p5 : IntKind.i64.wrap ((X : Int) + 3) = (X3 : Int) := by rw [show (X : Int) + 3 = X3 by omega]; exact IntWalk.i64_in _ (by have := HL9.out; omega)
        have p6 : IntKind.i64.wrap ((X : Int) + 1) = (X1 : Int) := by rw [show (X : Int) + 1 = X1 by omega]; exact IntWalk.i64_in _ (by have := HL9.out; omega)
        have p7 : IntKind.i64.wrap ((Y : Int) + 3) = (Y3 : Int) := by rw [show (Y : Int) + 3 = Y3 by omega]; exact IntWalk.i64_in _ (by have := HL9.out; omega)
        have d0 : (0 : Int) < (D : Int) := by omega
        have d1 : 0 < D := by omega
        have t0 : (T : Int) < K := by omega
        have t1 : (T1 : Int) < K := by omega
        have t2 : (T2 : Int) ≤ K := by omega
        have t3 : (T : Int) ≤ c4 := by have := (HCell.out _ R7.out).2; omega
        have HKC := Lib.hid (HCell.out _ R7.out).2
        have C := loadK G7.out.me (X3 : Int) (by omega) (by rw [hwl]; have := HL9.out; omega) HST.out.1 (by have := HST.out; omega)
        rw [Int.toNat_natCast, hnx] at C
        obtain ⟨e1, e2⟩ := HXY.out _ R7.out
        have HTT := Lib.hid hT2
        clear hg hbg hD hq0 hq1 hT hT1 hTK hT1' hT2 hKl hjx ex hjy ey hcut hcl hX hY hX3 hX1 hY3 hnx hcz hzero hwl hK2
        go_wp2_with fail
        refine C.mono ?_
        clear C
        rintro e V8 ⟨rfl, m8, b8, kp8⟩
        have G8 := Lib.hid (G7.out.to m8 b8)
        have R8 := Lib.hid (R7.out.kept kp8)
        clear m8 b8 kp8 e1 e2
        have C := storeK G8.out.me (X : Int) (-1) (by omega) (by rw [HWL.out]; have := HL9.out; omega) (by have := HST.out; omega) (by have := HST.out; omega)
        obtain ⟨e1, e2⟩ := HXY.out _ R8.out
        go_wp2_with fail
        refine C.mono ?_
        clear C
        rintro e V9 ⟨rfl, m9, b9, kp9⟩
        rw [Int.toNat_natCast] at m9
        have G9 := Lib.hid (G8.out.to m9 b9)
        have R9 := Lib.hid (R8.out.kept kp9)
        clear m9 b9 kp9 e1 e2
        have C := storeK G9.out.me (Y3 : Int) nx (by omega) (by rw [List.length_set, HWL.out]; have := HL9.out; omega) (by have := HST.out; omega) (by have := HST.out; omega)
        obtain ⟨e1, e2⟩ := HXY.out _ R9.out
        go_wp2_with fail
        refine C.mono ?_
        clear C
        rintro e V10 ⟨rfl, m10, b10, kp10⟩
        rw [Int.toNat_natCast] at m10
        have G10 := Lib.hid (G9.out.to m10 b10)
        have R10 := Lib.hid (R9.out.kept kp10)
        clear m10 b10 kp10 e1 e2 G7 G8 G9 R7 R8 R9
        obtain ⟨zs2, hz2⟩ : ∃ z, (ws.set X (-1)).set Y3 nx = z := ⟨_, rfl⟩
        rw [hz2] at G10 HCut HZero
        clear hz2
        have HTk := Lib.hid (show (ps.take T).length = T by rw [List.length_take]; have := HL9.out; have := HKs.out; omega)
        have HDr := Lib.hid (show (ps.drop T2).length = K - T2 by rw [List.length_drop, HKs.out.2])
        have HCk := Lib.hid (fun (W : World) (hb : Below V10.heap.size V10 W) => (HCell.out W (R10.out.fresh hb)).1)
        have HTL := Lib.hid (show T ≤ K from HL9.out.2.1.2.2.1)
        have HT2 := Lib.hid (show T2 ≤ K from HL9.out.2.1.2.2.2.1)
        have HY := Lib.hid (show ([] ++ ps.take T).length = T by rw [List.nil_append]; exact HTk.out)
        have HE := Lib.hid (show [] ++ ps.take T ++ ps.drop T2 = cutP ps T by unfold cutP; rw [List.nil_append, HTT.out])
        have HD := Lib.hid (show D ≤ 9 by have := HL9.out; have := HTT.out; omega)
        go_upto_region 32 with (first
          | (at_builtin; refine wpList_append_src _ rfl (.tmp 142) (.tmp 145) 28 rfl V10.heap.size 3 i0 _ 1 8 Try.underlying28 hi hz0 hz1 hz2 rfl (by decide) (.slice none 0 0) 0 [] rfl (World.ownsRow_nil _ _ _ _) _ _ _ ((ints (ps.take T)).map (Value.int .i64)) rfl (by rw [List.length_map, ints_len, HTk.out, Nat.mul_one]) (src_take (HCk.out _ (Below.refl _ _)) HKs.out.2 HTL.out) (ints_oneCell _ _) (by simp only [maxLen]; omega) (by omega) (Nat.le_refl _) ?_; intro v11 V11 q1 g1; have H1 := Lib.hid ((XR.nil V10).next (Below.refl _ _) q1 HTk.out g1); have E1 := Lib.hid (show V11.ownsRow V10.heap.size 3 1 v11 T ((ints (ps.take T)).map (Value.int .i64)) by simpa using q1); obtain ⟨a11, c11, rfl⟩ := _root_.Go.Proofs.Ytllgcnljpehgeaa.ownShape E1.out; clear q1 g1)
          | (at_builtin; refine wpList_append_src _ rfl (.tmp 147) (.tmp 151) 28 rfl V10.heap.size 3 i0 _ 1 8 Try.underlying28 hi hz0 hz1 hz2 rfl (by decide) _ _ _ rfl E1.out _ _ _ ((ints (ps.drop T2)).map (Value.int .i64)) rfl (by rw [List.length_map, ints_len, HDr.out, Nat.mul_one]) (src_dropIf (HCk.out _ H1.out.2) HKs.out.2 HT2.out HKC.out) (ints_oneCell _ _) (by simp only [maxLen]; omega) (by omega) H1.out.2.size ?_; intro v12 V12 q3 g3; have H3 := Lib.hid (H1.out.next (Below.refl _ _) (by rw [HY.out, List.nil_append]; exact q3) HDr.out g3); obtain ⟨a12, c12, rfl⟩ := _root_.Go.Proofs.Ytllgcnljpehgeaa.ownShape q3; clear q3 g3))
        generalize (if c4 = T2 then (some ⟨g2, 0, none⟩ : Option Addr) else some ⟨g2, T2, none⟩) = ao2
        have h3 := H3.out
        rw [HE.out] at h3
        rw [HL9.out.2.1.2.2.2.2] at h3 ⊢
        have G12 := Lib.hid (G10.out.fresh h3.2)
        have R12 := Lib.hid (R10.out.fresh h3.2)
        have L12 := Lib.hid (show RW V10.heap.size (.slice a12 D c12) (ints (cutP ps T)) V12 by have := h3.1; unfold RW; rwa [ints_len])
        clear h3 H3 H1 E1 G10 R10 HCk
        have C := reachRow G12.out.me HCut.out.path
        go_wp2_with fail
        refine C.mono ?_
        clear C
        rintro e V13 ⟨v, rfl, o13, b13⟩
        simp only [Bool.false_eq_true, if_false, Bool.not_false] at o13 ⊢
        have t13 : RW V12.heap.size v (ints (cutP ps T)) V13 := o13
        obtain ⟨a13, c13, rfl⟩ := t13.shape
        rw [ints_len, HCL.out] at t13 ⊢
        have T13 := Lib.hid t13
        have G13 := Lib.hid (G12.out.fresh b13)
        have R13 := Lib.hid (R12.out.fresh b13)
        have L13 := Lib.hid (L12.out.fresh b13)
        clear o13 t13 b13 G12 R12 L12
        have C := soundAny G13.out.me HCut.out.path
        rw [HCut.out.sound] at C
        go_wp2_with fail
        refine C.mono ?_
        clear C
        rintro e V14 ⟨rfl, b14⟩
        have T14 := Lib.hid (T13.out.fresh b14)
        have G14 := Lib.hid (G13.out.fresh b14)
        have R14 := Lib.hid (R13.out.fresh b14)
        have L14 := Lib.hid (L13.out.fresh b14)
        clear b14 T13 G13 R13 L13
        have C := storeK G14.out.me (X1 : Int) 0 (by omega) (by have := HCut.out.len; have := HN.out; have := HL9.out; omega) (by have := HST.out; omega) (by have := HST.out; omega)
        obtain ⟨e1, e2⟩ := HXY.out _ R14.out
        go_wp2_with fail
        refine C.mono ?_
        clear C
        rintro e V15 ⟨rfl, m15, b15, kp15⟩
        rw [Int.toNat_natCast] at m15
        have G15 := Lib.hid (G14.out.to m15 b15)
        have T15 := Lib.hid (T14.out.kept kp15)
        have L15 := Lib.hid (L14.out.kept kp15)
        have KI := Lib.hid (fun (W : World) (hb : Below V15.heap.size V15 W) => intsEq W a13 a12 D c13 c12 (ints (cutP ps T)) (T15.out.fresh hb).reads (L15.out.fresh hb).reads (by have := HD.out; omega))
        have KS := Lib.hid (fun (W : World) (hb : Below V15.heap.size V15 W) => (show Calls Try.prog 16 #[.pointer (some ⟨p, 0, none⟩)] W (fun e w' => e = .returned (.int .u16 0) ∧ Below W.heap.size W w') from by have C := soundAny (G15.out.fresh hb).me HZero.out.path; rw [HZero.out.sound] at C; exact C))
        have C := known V15
        clear m15 b15 kp15 e1 e2 G14 T14 R14 L14
        go_wp2_with fail
        refine C.mono ?_
        clear C
        rintro e V16 ⟨rfl, b16⟩
        have D16 := Lib.hid b16
        clear b16
        have C := KI.out V16 D16.out
        go_wp2_with fail
        refine C.mono ?_
        clear C
        rintro e V17 ⟨rfl, b17⟩
        have D17 := Lib.hid (D16.out.trans (b17.mono D16.out.size))
        clear b17
        have C := KS.out V17 D17.out
        go_wp2_with fail
        refine C.mono ?_
        clear C
        rintro e V18 ⟨rfl, b18⟩
        have D18 := Lib.hid (D17.out.trans (b18.mono D17.out.size))
        clear b18
        go_wp2
        go_ret
        exact ⟨rfl, HB.out.trans ((G15.out.fresh D18.out).v.mono HB.out.size)⟩

end Go.Proofs.Ytllgcnljpehgeaa.M2
