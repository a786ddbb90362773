/-
  A bit of a byte. Conditions: none. What reaperref06.Feed, Toss and Height tell. Conditions: at most twenty thousand bits; at most a million bytes.
-/
import Derived.Test.YtniefplgijpckaaGreatCoiA12
namespace Go.Proofs.YtniefplgijpckaaGreat
open Go.RowKit

theorem rem_bit (zs : List Int) (k q : Nat) (hq : q < 8) (z : Int) (hz : z = zs.getD k 0) (z0 : 0 ≤ z) : ((z / 2 ^ q).tmod 2 == 1) = bitAt zs (8 * k + q) := by
  have h : 0 ≤ z / 2 ^ q := Int.ediv_nonneg z0 (Int.le_of_lt (Int.pow_pos (by omega)))
  rw [bitAt, show (8 * k + q) / 8 = k by omega, show (8 * k + q) % 8 = q by omega, ← hz, Int.tmod_eq_emod_of_nonneg h]
  by_cases e : z / 2 ^ q % 2 = 1 <;> simp [e]


end Go.Proofs.YtniefplgijpckaaGreat
namespace Go.Proofs.YtniefplgijpckaaGreat
open Go.RowKit

/-- Bits that are told, in new memory. -/
def Fedd (w : World) (bs : List Bool) (v : Value) (wr : World) : Prop := Tail wr v (bs.map Value.bool) ∧ Below w.heap.size w wr ∧ ∀ g, v.ownBlock = some g → w.heap.size ≤ g

theorem Fedd.next {w wr w1 : World} {bs xs : List Bool} {v v' : Value} (h : Fedd w bs v wr) (ht : Tail w1 v' (bs.map Value.bool ++ xs.map Value.bool)) (hg : wr.grownBy w1 v.ownBlock) (hl : ∀ g, v'.ownBlock = some g → v.ownBlock = some g ∨ wr.heap.size ≤ g) : Fedd w (bs ++ xs) v' w1 := by
  refine ⟨by simpa using ht, h.2.1.grown hg h.2.1.size (fun g e => h.2.2 g e), fun g e => ?_⟩
  rcases hl g e with h1 | h1
  · exact h.2.2 g h1
  · exact Nat.le_trans h.2.1.size h1
theorem Fedd.alloc {w wr : World} {bs : List Bool} {v : Value} (h : Fedd w bs v wr) (o : Obj) : Fedd w bs v (wr.alloc o) := ⟨h.1.alloc o, h.2.1.alloc h.2.1.size o, h.2.2⟩

theorem Fedd.start {w w1 : World} {bs : List Bool} {v : Value} (ht : Tail w1 v ([] ++ bs.map Value.bool)) (hg : w.grownBy w1 none) (hl : ∀ g, v.ownBlock = some g → (none : Option Nat) = some g ∨ w.heap.size ≤ g) : Fedd w bs v w1 :=
  ⟨by simpa using ht, (Below.refl _ _).grown hg (Nat.le_refl _) (fun g e => by cases e), fun g e => by
    rcases hl g e with h | h
    · cases h
    · exact h⟩

set_option maxRecDepth 100000 in
set_option maxHeartbeats 4000000 in
theorem refFeed (w : World) (v : Value) (bs : List Bool) (ao : Option Addr) (n cap : Nat) (zs : List Int) (hv : Tail w v (bs.map Value.bool)) (hl : bs.length ≤ 20000) (hr : Reads .u8 w ao n zs) (hz : ∀ z ∈ zs, 0 ≤ z ∧ z ≤ 255) (hn : n ≤ 1000000) :
    Calls Tryz.prog 35 #[v, .slice ao n cap] w fun e w' => ∃ v', e = .returned v' ∧ Fedd w (feedL bs zs) v' w' := by
  obtain ⟨i0, hi, hz0, hz1, hz2⟩ := info_parts infoBool
  have HR := Lib.hid (And.intro hr hz)
  have HL := Lib.hid hr.1
  have HV := Lib.hid hv
  have HS := Lib.hid (fed_zero bs zs hl)
  obtain ⟨vo, vc, hvs, _⟩ := hv.shape
  rw [List.length_map] at hvs
  subst hvs
  have HSrc := Lib.hid (tail_src (P := Tryz.prog) Tryz.underlying56 (n := bs.length) (by simp) HV.out (bools_one bs))
  clear hr hz hv
  go_enter Tryz.func35, Tryz.ntmps35
  go_wp2_with (at_builtin; refine wpList_append_tail _ rfl _ _ 56 rfl 4 i0 _ 1 Tryz.underlying56 hi hz0 hz1 hz2 rfl (.slice none 0 0) [] rfl Tail.nothing _ _ _ rfl HSrc.out (by simp only [maxLen, List.length_nil]; omega) (by simp only [List.length_nil]; omega) ?_; intro v1 w1 t1 g1 l1; have HF := Lib.hid (show Fedd w (fed bs zs (8 * 0)) v1 w1 from by rw [HS.out]; exact Fedd.start t1 g1 l1); clear t1 g1 l1)
  clear HV HSrc
  go_wp2
  go_loopw [5, 6] (fun v i wr => ∃ k : Nat, k ≤ n ∧ i = .int .i64 k ∧ Fedd w (fed bs zs (8 * k)) v wr) (fun _ i _ => n - (intOf i).toNat)
  case atStart => exact ⟨0, Nat.zero_le _, rfl, HF.out⟩
  case round =>
    obtain ⟨k, hk, rfl, hF⟩ := hrel
    have HK := Lib.hid hF
    clear hF HF
    by_cases hlt : k < n
    · have i1 : (k : Int) < n := by omega
      go_wp2
      go_loopw [5, 7] (fun v i wr => ∃ q : Nat, q ≤ 8 ∧ i = .int .i64 q ∧ Fedd w (fed bs zs (8 * k + q)) v wr) (fun _ i _ => 8 - (intOf i).toNat)
      case atStart => exact ⟨0, Nat.zero_le _, rfl, HK.out⟩
      case round =>
        obtain ⟨q, hq, rfl, hF⟩ := hrel
        by_cases h8 : q < 8
        · obtain ⟨bb, oo, rfl, lb, hc⟩ := (HR.out.1.keep hF.2.1).2 (by omega)
          have cb := hc k hlt
          have hzk : 0 ≤ zs.getD k 0 ∧ zs.getD k 0 ≤ 255 := by
            have : k < zs.length := by rw [HL.out]; exact hlt
            simpa [List.getD, this] using HR.out.2 (zs[k]) (List.getElem_mem this)
          obtain ⟨cs, hcs⟩ : ∃ cs, cs = fed bs zs (8 * k + q) := ⟨_, rfl⟩
          rw [← hcs] at hF
          have hcl : cs.length ≤ 20000 := by rw [hcs]; exact fed_le _ _ _
          have HC := Lib.hid hcs
          have HFF := Lib.hid hF
          have HZ := Lib.hid (rem_bit zs k q h8 _ rfl hzk.1)
          obtain ⟨vo2, vc2, hvs, _⟩ := hF.1.shape
          rw [List.length_map] at hvs
          subst hvs
          generalize zs.getD k 0 = z at *
          obtain ⟨z0, z1⟩ := hzk
          have i8 : (q : Int) < 8 := by omega
          clear hF hcs hc
          by_cases hfull : cs.length < 20000
          · have hb : decide ((cs.length : Int) < 20000) = true := by simp; omega
            have HFu := Lib.hid hfull
            have HCl := Lib.hid hcl
            clear hfull hcl
            have hw : IntKind.u64.wrap (q : Int) = q := by simp [IntKind.wrap, IntKind.bits, IntKind.signed]; omega
            have hm : min q 8 = q := by omega
            go_wp2_with (at_builtin; refine wpList_append_tail _ rfl _ _ 56 rfl 4 i0 _ 1 Tryz.underlying56 hi hz0 hz1 hz2 rfl (.slice vo2 cs.length vc2) (cs.map Value.bool) rfl (HFF.out.1.alloc _) _ 1 [.bool ((z / 2 ^ q).tmod 2 == 1)] rfl (Src.ofSlice _ Tryz.underlying56 ⟨wr.heap.size, 0, none⟩ 1 1 _ rfl (by intro j u hu; cases j <;> simp at hu; subst hu; go_simp) (by intro u hu; simp at hu; subst hu; rfl)) (by rw [List.length_map]; simp only [maxLen]; have := HCl.out; omega) (by rw [List.length_map]; have := HCl.out; omega) ?_; intro v4 w4 t4 g4 l4; have HG := Lib.hid ((HFF.out.alloc _).next (xs := [((z / 2 ^ q).tmod 2 == 1)]) t4 g4 l4); clear t4 g4 l4)
            clear hw hm
            go_roundw
            case rel =>
              have e := HC.out
              have hG := HG.out
              have e3 : cs ++ [((z / 2 ^ q).tmod 2 == 1)] = fed bs zs (8 * k + (q + 1)) := by rw [HZ.out, ← Nat.add_assoc, fed_succ _ _ _ (by rw [← e]; exact HFu.out), e]
              rw [e3] at hG
              exact ⟨q + 1, by omega, by go_num, hG⟩
            case measure => simp [intOf]; omega
          · have hb : decide ((cs.length : Int) < 20000) = false := by simp; omega
            have HFu := Lib.hid hfull
            have HCl := Lib.hid hcl
            clear hfull hcl
            go_wp2
            go_roundw
            case rel => 
              have e := HC.out
              exact ⟨q + 1, by omega, by go_num, by rw [fed_full bs zs (m := 8 * k + q) (by omega) (by rw [← e]; exact HFu.out), ← e]; exact HFF.out⟩
            case measure => simp [intOf]; omega
        · obtain rfl : q = 8 := by omega
          have HK8 := Lib.hid hF
          clear hF
          go_wp2
          go_roundw
          case rel => exact ⟨k + 1, by omega, by go_num, HK8.out⟩
          case measure => simp [intOf]; omega
    · obtain rfl : k = n := by omega
      go_wp2
      go_ret
      exact ⟨_, rfl, by unfold feedL; rw [HL.out]; exact HK.out⟩

/-- What the document's Toss tells: a list that lies where the old one does. -/
def RefLess (w : World) (v : Value) (cs : List Bool) (v' : Value) (w' : World) : Prop := Tail w' v' (cs.map Value.bool) ∧ v'.ownBlock = v.ownBlock ∧ Below w.heap.size w w'

theorem refToss (w : World) (v : Value) (bs : List Bool) (hv : Tail w v (bs.map Value.bool)) (hl : bs.length ≤ 20000) :
    Calls Tryz.prog 52 #[v] w fun e w' => ∃ v', e = .returned (.tuple #[v', .bool (bs.headD false)]) ∧ RefLess w v bs.tail v' w' := by
  cases bs with
  | nil =>
    have HV := Lib.hid hv
    obtain ⟨vo, vc, hvs, _⟩ := hv.shape
    rw [List.map_nil, List.length_nil] at hvs
    subst hvs
    clear hv
    go_enter Tryz.func52, Tryz.ntmps52
    go_wp2
    go_ret2
    exact ⟨_, rfl, HV.out, rfl, Below.refl _ _⟩
  | cons b bs =>
    obtain ⟨k, hk⟩ : ∃ k, k = bs.length := ⟨_, rfl⟩
    have hk2 : k ≤ 20000 := by simp at hl; omega
    obtain ⟨g, off, cap, hvs, hc, cx⟩ := Tail.first (x := .bool b) (xs := bs.map Value.bool) (by simpa using hv)
    rw [List.length_map, ← hk] at hvs hc
    have hr : Tail w (.slice (if cap = 1 then some ⟨g, off, none⟩ else some ⟨g, off + 1, none⟩) k (cap - 1)) (bs.map Value.bool) := by
      have ht := hv
      rw [hvs, show k + 1 = (bs.map Value.bool).length + 1 by simp [hk], List.map_cons] at ht
      have := ht.rest
      rwa [List.length_map, ← hk] at this
    subst hvs
    have HK := Lib.hid hk
    clear hv hl hk
    by_cases h1 : cap = 1
    · subst h1
      rw [if_pos rfl] at hr
      have HR := Lib.hid hr
      obtain rfl : k = 0 := by omega
      clear hr hc
      go_enter Tryz.func52, Tryz.ntmps52
      go_wp2
      go_quiet (fail)
      go_wp2
      go_ret2
      exact ⟨_, rfl, HR.out.keep (Nat.le_refl _) (fun _ _ => rfl), rfl, below_drewN (Below.refl _ _) _⟩
    · rw [if_neg h1] at hr
      have HR := Lib.hid hr
      clear hr
      go_enter Tryz.func52, Tryz.ntmps52
      go_wp2
      go_quiet (fail)
      go_wp2
      go_ret2
      exact ⟨_, rfl, HR.out.keep (Nat.le_refl _) (fun _ _ => rfl), rfl, below_drewN (Below.refl _ _) _⟩

theorem RefLess.trans {w a b : World} {v v' v'' : Value} {cs ds : List Bool} (h : RefLess w v cs v' a) (k : RefLess a v' ds v'' b) : RefLess w v ds v'' b :=
  ⟨k.1, k.2.1.trans h.2.1, h.2.2.trans (k.2.2.mono h.2.2.size)⟩

/-- In the midst of the document's height. -/
def RMid (w : World) (v : Value) (bs : List Bool) (j : Nat) (l : Value) (wr : World) : Prop :=
  ∃ cs, RefLess w v cs l wr ∧ cs.length ≤ 20000 ∧ up bs + 1 = j + (rise (8 - j) cs).1 ∧ left bs = (rise (8 - j) cs).2

/-- How the document's height ends. -/
def RHigh (w : World) (v : Value) (bs : List Bool) (e : Ending) (w' : World) : Prop := ∃ v', e = .returned (.tuple #[v', .int .i64 ((up bs : Int) + 1)]) ∧ RefLess w v (left bs) v' w'

theorem rhigh_mk {w w' : World} {v l : Value} {bs : List Bool} {j : Nat} (hj : up bs + 1 = j) (h : RefLess w v (left bs) l w') : RHigh w v bs (.returned (.tuple #[l, .int .i64 (j : Int)])) w' := by
  subst hj
  exact ⟨l, rfl, h⟩

set_option maxRecDepth 100000 in
set_option maxHeartbeats 4000000 in
theorem refHeight (w : World) (v : Value) (bs : List Bool) (hv : Tail w v (bs.map Value.bool)) (hl : bs.length ≤ 20000) :
    Calls Tryz.prog 50 #[v] w (RHigh w v bs) := by
  have HS := Lib.hid (show RMid w v bs 1 v w from ⟨bs, ⟨hv, rfl, Below.refl _ _⟩, hl, by show (rise 7 bs).1 + 1 = 1 + (rise 7 bs).1; omega, rfl⟩)
  clear hv hl
  go_enter Tryz.func50, Tryz.ntmps50
  go_wp2
  go_loopw [0, 4] (fun l h wr => ∃ j : Nat, 1 ≤ j ∧ j ≤ 8 ∧ h = .int .i64 j ∧ RMid w v bs j l wr) (fun _ h _ => 8 - (intOf h).toNat)
  case atStart => exact ⟨1, by omega, by omega, rfl, HS.out⟩
  case round =>
    obtain ⟨j, j1, j8, rfl, cs, hR, hcl, hu, hl⟩ := hrel
    clear HS
    by_cases h8 : j = 8
    · subst h8
      have hj : up bs + 1 = 8 := by
        have e : (rise (8 - 8) cs).1 = 0 := by simp [rise]
        omega
      have hd := hR
      rw [show cs = left bs from by rw [hl]; rfl] at hd
      have HU := Lib.hid (rhigh_mk (j := 8) hj hd)
      clear hu hl hR hj hd
      go_wp2
      go_ret2
      exact HU.out
    · obtain ⟨n, hn⟩ : ∃ n, 8 - j = n + 1 := ⟨7 - j, by omega⟩
      rw [hn] at hu hl
      have i8 : (j : Int) < 8 := by omega
      have C := refToss wr _ cs hR.1 hcl
      cases cs with
      | nil =>
        have HU := Lib.hid (And.intro hR (And.intro hu hl))
        clear hu hl hR hn hcl
        go_wp2_with fail
        refine C.mono ?_
        clear C
        rintro e w1 ⟨v1, rfl, r1⟩
        have HR1 := Lib.hid (RefLess.trans HU.out.1 r1)
        clear r1
        go_wp2
        go_ret2
        have hu := HU.out.2.1
        have hl := HU.out.2.2
        exact rhigh_mk (j := j) (by simp only [rise] at hu; omega) (by rw [hl]; exact HR1.out)
      | cons b cs =>
        cases b with
        | false =>
          have HU := Lib.hid (And.intro hR (And.intro hu hl))
          clear hu hl hR hn hcl
          go_wp2_with fail
          refine C.mono ?_
          clear C
          rintro e w1 ⟨v1, rfl, r1⟩
          have HR1 := Lib.hid (RefLess.trans HU.out.1 r1)
          clear r1
          go_wp2
          go_ret2
          have hu := HU.out.2.1
          have hl := HU.out.2.2
          exact rhigh_mk (j := j) (by simp only [rise] at hu; omega) (by rw [hl]; exact HR1.out)
        | true =>
          have HU := Lib.hid (And.intro hR (And.intro hu (And.intro hl (And.intro hn hcl))))
          clear hu hl hR hn hcl
          go_wp2_with fail
          refine C.mono ?_
          clear C
          rintro e w1 ⟨v1, rfl, r1⟩
          have HR1 := Lib.hid (RefLess.trans HU.out.1 r1)
          clear r1
          go_wp2
          go_roundw
          case rel =>
            obtain ⟨_, hu, hl, hn, hcl⟩ := HU.out
            refine ⟨j + 1, by omega, by omega, by go_num, cs, HR1.out, by simp at hcl; omega, ?_, ?_⟩
            · rw [show 8 - (j + 1) = n by omega]; simp only [rise] at hu; omega
            · rw [show 8 - (j + 1) = n by omega]; simpa only [rise] using hl
          case measure => simp [intOf]; omega

end Go.Proofs.YtniefplgijpckaaGreat
