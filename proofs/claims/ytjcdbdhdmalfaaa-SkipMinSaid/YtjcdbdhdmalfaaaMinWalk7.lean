/-
  The walk of SkipMin: for all numbers and lists it answers true and leaves all old memory as it was.
-/
import Derived.Test.YtjcdbdhdmalfaaaRising
namespace Go.Proofs.Ytjcdbdhdmalfaaa
open Go.RowKit

theorem infoS : (Try.prog.info? 26).map (fun i => (i.zero, i.size, i.bytes)) = some (some (.slice none 0 0), 1, 24) := by kernel_rfl

theorem own_base {w : World} {b b' n size : Nat} {e : TypeId} {v : Value} {xs : List Value} (h : w.ownsRow b e size v n xs) (hb : b' ≤ b) : w.ownsRow b' e size v n xs := by
  refine ⟨h.1, ?_⟩
  rcases h.2 with h' | ⟨g, cap, cur, h', hbg, r⟩
  · exact .inl h'
  · exact .inr ⟨g, cap, cur, h', Nat.le_trans hb hbg, r⟩
theorem own_below {w w' : World} {base size n : Nat} {e : TypeId} {v : Value} {xs : List Value} (h : w.ownsRow base e size v n xs) (hb : Below w.heap.size w w') : w'.ownsRow base e size v n xs :=
  own_keep h fun g hg => hb.block g (h.lt g hg).2

/-- The levels that have been told of a list: k of them, in a row of their own. -/
structure BRel7 (b : Nat) (l : List It) (k : Nat) (v : Value) (W : World) : Prop where
  row : ∃ cs : List Value, W.ownsRow b 26 1 v k cs ∧ ∀ i, i < k → ∃ u, cs[i]? = some u ∧ W.ownsRow b 21 1 u (lvlOf l ((i : Int) + 1)).length ((lvlOf l ((i : Int) + 1)).map (Value.int .i32))

theorem BRel7.keep {b k : Nat} {l : List It} {v : Value} {W W' : World} (h : BRel7 b l k v W) (hb : ∀ g, b ≤ g → g < W.heap.size → W'.heap[g]? = W.heap[g]?) : BRel7 b l k v W' := by
  obtain ⟨cs, h1, h2⟩ := h.row
  refine ⟨cs, own_keep h1 fun g hg => hb g (h1.lt g hg).1 (h1.lt g hg).2, fun i hi => ?_⟩
  obtain ⟨u, hu, ho⟩ := h2 i hi
  exact ⟨u, hu, own_keep ho fun g hg => hb g (ho.lt g hg).1 (ho.lt g hg).2⟩

/-- One level more. -/
theorem BRel7.next {b k : Nat} {l : List It} {v u v' : Value} {W W4 : World} {cs : List Value} {o : Obj} (h1 : W.ownsRow b 26 1 v k cs)
    (h2 : ∀ i, i < k → ∃ u, cs[i]? = some u ∧ W.ownsRow b 21 1 u (lvlOf l ((i : Int) + 1)).length ((lvlOf l ((i : Int) + 1)).map (Value.int .i32)))
    (hu : W.ownsRow b 21 1 u (lvlOf l ((k : Int) + 1)).length ((lvlOf l ((k : Int) + 1)).map (Value.int .i32))) (hown : W4.ownsRow b 26 1 v' (k + 1) (cs ++ [u])) (hg : (W.alloc o).grownBy W4 v.ownBlock) : BRel7 b l (k + 1) v' W4 := by
  have hl : cs.length = k := by have := h1.1; omega
  refine ⟨_, hown, fun i hi => ?_⟩
  by_cases e : i = k
  · subst e
    exact ⟨u, by rw [List.getElem?_append_right (by omega), hl, Nat.sub_self]; rfl, rowKept hu h1 (by decide) hg⟩
  · obtain ⟨x, hx, ho⟩ := h2 i (by omega)
    exact ⟨x, by rw [List.getElem?_append_left (by omega)]; exact hx, rowKept ho h1 (by decide) hg⟩

/-- What has been told, and the list beside it. -/
structure TellRel (w : World) (F : Nat → Prop) (p : Nat) (mo : Int) (l : List It) (b : Nat) (k : Nat) (v : Value) (W : World) : Prop where
  at_ : At w F p mo l W
  tell : BRel7 b l k v W
  low : ∀ g, F g → g < b
  base : b ≤ W.heap.size

theorem lvl_cons_in {i : It} {l : List It} {k : Nat} (h : k + 1 ≤ i.h) : lvlOf (i :: l) ((k : Int) + 1) = i.v :: lvlOf l ((k : Int) + 1) := by
  unfold lvlOf
  rw [List.filter_cons_of_pos (by simp; omega)]
  rfl
theorem lvl_cons_out {i : It} {l : List It} {k : Nat} (h : ¬ k + 1 ≤ i.h) : lvlOf (i :: l) ((k : Int) + 1) = lvlOf l ((k : Int) + 1) := by
  unfold lvlOf
  rw [List.filter_cons_of_neg (by simp; omega)]

theorem blockKept {W : World} {g k n : Nat} {b size : Nat} {e : TypeId} {v : Value} {xs : List Value} (h : W.ownsRow b e size v n xs) (hg : v.ownBlock = some g) (hk : k < b) : g ≠ k := by
  have := (h.lt g hg).1
  omega

theorem tellNext {w W w5 : World} {F : Nat → Prop} {p : Nat} {mo : Int} {l : List It} {b k : Nat} {v u : Value} (h : TellRel w F p mo l b k v W) (hb5 : Below W.heap.size W w5)
    (ho5 : w5.ownsRow W.heap.size 21 1 u (lvlOf l ((k : Int) + 1)).length ((lvlOf l ((k : Int) + 1)).map (Value.int .i32))) :
    ∃ cs, w5.ownsRow b 26 1 v k cs ∧ b ≤ w5.heap.size ∧ ∀ v' w6 o, w6.ownsRow b 26 1 v' (k + 1) (cs ++ [u]) → (w5.alloc o).grownBy w6 v.ownBlock → TellRel w F p mo l b (k + 1) v' w6 := by
  obtain ⟨cs, h1, h2⟩ := (h.tell.keep (W' := w5) fun g _ hg => hb5.block g hg).row
  have hbs : b ≤ w5.heap.size := Nat.le_trans h.base hb5.size
  refine ⟨cs, h1, hbs, fun v' w6 o hown hg => ?_⟩
  have hrow : ∀ g, v.ownBlock = some g → b ≤ g := fun g hv => (h1.lt g hv).1
  have ha := (h.at_.fresh hb5).fresh ((Below.refl _ w5).alloc (Nat.le_refl _) o)
  have hw : Wrote (fun g => v.ownBlock = some g) (w5.alloc o) w6 := ⟨hg.os, hg.tape, hg.output, hg.size, fun x hx hF => hg.block x hx fun e => hF e.symm⟩
  refine ⟨⟨ha.1.apart hw fun g hF hv => by have := h.low g hF; have := hrow g hv; omega, ha.2.1.trans (hw.below ha.2.1.size fun g hv => ?_), ha.2.2⟩, BRel7.next h1 h2 (own_base ho5 h.base) hown hg, h.low, Nat.le_trans hbs (Nat.le_trans (by simp) hg.size)⟩
  have := hrow g hv
  have := h.at_.2.2 p h.at_.1.in
  have := h.low p h.at_.1.in
  omega

/-- One of the levels that have been told. -/
theorem BRel7.at {b g c : Nat} {l : List It} {W : World} (h : BRel7 b l 8 (.slice (some ⟨g, 0, none⟩) 8 c) W) (i : Nat) (hi : i < 8) :
    ∃ ao cap, W.cell? ⟨g, i, none⟩ = some (.slice ao (lvlOf l ((i : Int) + 1)).length cap) ∧ Reads .i32 W ao (lvlOf l ((i : Int) + 1)).length (lvlOf l ((i : Int) + 1)) ∧ (lvlOf l ((i : Int) + 1)).length ≤ cap := by
  obtain ⟨cs, h1, h2⟩ := h.row
  obtain ⟨u, hu, ho⟩ := h2 i hi
  obtain ⟨ao, cap, rfl, hr, hc, _⟩ := reads_own ho
  have := h1.cells (g := g) rfl i _ hu
  rw [Addr.add_lit, Nat.zero_add] at this
  exact ⟨ao, cap, this, hr, hc⟩

/-- A list without its first one, where it stands. -/
theorem readsTail {W : World} {b off n : Nat} {y : Int} {zs : List Int} (h : Reads .i32 W (some ⟨b, off, none⟩) (n + 1) (y :: zs)) : Reads .i32 W (some ⟨b, off + 1, none⟩) n zs := by
  have hl := h.1
  refine ⟨by simpa using hl, fun hp => ?_⟩
  obtain ⟨b', off', e, hb, hc⟩ := h.2 (by omega)
  simp only [Option.some.injEq, Addr.mk.injEq, and_true] at e
  obtain ⟨rfl, rfl⟩ := e
  refine ⟨b, off + 1, rfl, hb, fun i hi => ?_⟩
  have := hc (i + 1) (by omega)
  rw [show off + 1 + i = off + (i + 1) by omega, this]
  simp [List.getD]

/-- What holds between two levels that are looked at again. -/
def L3 (w : World) (p : Nat) (mo : Int) (rest : List It) (b : Nat) (l : List It) (v : Value) (W : World) : Prop := (∃ F, At w F p mo rest W) ∧ BRel7 b l 8 v W

theorem L3.fresh {w W W' : World} {p : Nat} {mo : Int} {rest : List It} {b : Nat} {l : List It} {v : Value} (h : L3 w p mo rest b l v W) (hb : Below W.heap.size W W') : L3 w p mo rest b l v W' := by
  obtain ⟨⟨F, h1⟩, h2⟩ := h
  exact ⟨⟨F, h1.fresh hb⟩, h2.keep fun g _ hg => hb.block g hg⟩

/-- Behind a Min what was told is as it was. -/
theorem minTell {w W w5 : World} {F : Nat → Prop} {p : Nat} {mo : Int} {i : It} {rest : List It} {b : Nat} {v : Value} (h : TellRel w F p mo (i :: rest) b 8 v W) (d : Did F p mo rest W w5) : L3 w p mo rest b (i :: rest) v w5 := by
  obtain ⟨F5, a5, hw, _⟩ := h.at_.next d
  exact ⟨⟨F5, a5⟩, h.tell.keep fun g hb hg => hw.block g hg fun hF => by have := h.low g hF; omega⟩

def ListAt (w : World) (p : Nat) (mo : Int) (wr : World) : Prop := ∃ F l, At w F p mo l wr

set_option maxRecDepth 100000 in
set_option maxHeartbeats 16000000 in
theorem minWalk {w : World} (a : Int) (bo : Option Addr) (m capb : Nat) (cs : List Int) (t : Int) (a0 : 0 ≤ a) (a1 : a ≤ 255) (hb : ArgBytes w bo m capb cs) (hlb : m ≤ 140737488351232) (t0 : 0 ≤ t) (t1 : t ≤ 255) :
    Calls Try.prog 8 #[.int .u8 a, .slice bo m capb, .int .u8 t] w fun e w' => e = .returned (.bool true) ∧ Below w.heap.size w w' := by
  obtain ⟨hb, _, _, hbz⟩ := hb
  have HC := Lib.hid hb
  have HCr := Lib.hid hbz
  clear hb hbz
  have hmo : 0 ≤ 1 + a % 30 ∧ 1 + a % 30 ≤ 1000 := by omega
  obtain ⟨i0, hi, hz0, hz1, hz2⟩ := info_parts infoS
  go_enter Try.func8, Try.ntmps8
  go_wp2_with fail
  refine (newAny _ w).mono ?_
  rintro e w1 ⟨rfl, s1, bl1⟩
  rw [mostOf_self _ hmo.1 hmo.2] at s1
  have HA := Lib.hid (At.new s1 bl1)
  have HMo := Lib.hid hmo
  clear s1 bl1 hmo
  generalize 1 + a % 30 = mo at *
  by_cases hbig : 60 < m
  · go_wp2_with fail
    refine (known w1).mono ?_
    rintro e w2 ⟨rfl, bl2⟩
    have HQ := Lib.hid (HA.out.2.1.trans (bl2.mono HA.out.2.1.size))
    clear bl2
    go_wp2
    go_ret
    exact ⟨rfl, HQ.out⟩
  · have C := risingAny w1 bo m capb cs (HC.out.keep HA.out.2.1) HCr.out
    go_wp2_with fail
    refine C.mono ?_
    clear C
    rintro e w2 ⟨va, nv, capv, ha, nh, caph, vs, hs, rfl, rv, rh, cv, ch, n20, n15, nv1, nh1, bl2⟩
    have HA2 := Lib.hid (HA.out.fresh bl2)
    have C := batchAny HA2.out.1 va ha nv capv nh caph vs hs rv rh (fun x e hf => by have := nv1 x e; have := HA.out.lt _ hf; omega) (fun x e hf => by have := nh1 x e; have := HA.out.lt _ hf; omega) (by omega) cv
    clear rv rh nv1 nh1 bl2
    go_wp2_with fail
    refine C.mono ?_
    clear C
    intro e w3 hp
    obtain ⟨g, _, he, _, d3⟩ := hp
    subst he
    obtain ⟨F3, a3, _, _⟩ := HA2.out.next d3
    have HA3 := Lib.hid (show ListAt w w.heap.size mo w3 from ⟨F3, _, a3⟩)
    clear d3 a3 HA HA2
    go_wp2
    go_loopw [10] (fun i wr => ∃ k : Nat, k ≤ 9 ∧ i = .int .i64 k ∧ ListAt w w.heap.size mo wr) (fun i _ => 9 - (intOf i).toNat)
    case atStart => exact ⟨0, by omega, rfl, HA3.out⟩
    case round =>
      obtain ⟨k, hk, rfl, F, l, a4⟩ := hrel
      clear HA3
      have HA4 := Lib.hid a4
      clear a4
      generalize wr = wo at *
      by_cases hlt : (k : Int) < t % 9
      · have hk8 : k < 9 := by omega
        go_wp2
        go_loopw [11, 12] (fun v i wi => ∃ j : Nat, j ≤ 8 ∧ i = .int .i64 ((j + 1 : Nat) : Int) ∧ TellRel w F w.heap.size mo l wo.heap.size j v wi) (fun _ i _ => 9 - (intOf i).toNat)
        case atStart => exact ⟨0, by omega, rfl, ⟨HA4.out, ⟨⟨[], by simpa using World.ownsRow_nil wo wo.heap.size 26 1, fun i hi => by omega⟩⟩, HA4.out.lt, Nat.le_refl _⟩⟩
        case round =>
          obtain ⟨j, hj, rfl, hT⟩ := hrel
          clear HA4
          have HT := Lib.hid hT
          clear hT
          by_cases hj8 : j < 8
          · have C := levelAny HT.out.at_.1 ((j : Int) + 1)
            have hje : ((j + 1 : Nat) : Int) = (j : Int) + 1 := by omega
            have j8 : (j : Int) + 1 ≤ 8 := by omega
            rw [hje]
            clear hje
            go_wp2_with fail
            refine C.mono ?_
            clear C
            rintro e w5 ⟨v5, rfl, ho5, bl5⟩
            obtain ⟨cs5, hr5, hb5, hnx5⟩ := tellNext HT.out bl5 ho5
            obtain ⟨ao, cap, rfl⟩ := ownShape ho5
            have HRow := Lib.hid hr5
            have HBs := Lib.hid hb5
            have HNx := Lib.hid hnx5
            have HM1 := Lib.hid (show j + 1 ≤ maxLen by simp only [maxLen]; omega)
            have HM2 := Lib.hid (show (j + 1) * 24 ≤ 140737488355328 by omega)
            clear hr5 hb5 hnx5 ho5 bl5 HT
            generalize (lvlOf l ((j : Int) + 1)).length = nn at *
            go_wp2_with (at_builtin; refine wpList_append_own _ rfl _ _ 52 rfl wo.heap.size 26 i0 _ 1 24 Try.underlying52 hi hz0 hz1 hz2 rfl (by decide) _ j _ rfl (HRow.out.alloc _) ⟨w5.heap.size, 0, none⟩ 1 1 [.slice ao nn cap] rfl rfl (cell_one_new _ _ _) (by simp [Value.oneCell']) HM1.out HM2.out (Nat.le_trans HBs.out (by simp)) ?_; intro v' w6 hown' hgrow _; have HO := Lib.hid (HNx.out _ _ _ hown' hgrow); obtain ⟨g', cap', rfl⟩ := ownsRow_succ hown'; clear hown' hgrow)
            go_roundw
            case rel => exact ⟨j + 1, by omega, by go_num, HO.out⟩
            case measure => simp [intOf]; omega
          · obtain rfl : j = 8 := by omega
            have hT := HT.out
            obtain ⟨cs8, hr8, _⟩ := hT.tell.row
            obtain ⟨g, cap8, rfl⟩ := ownsRow_succ (k := 7) hr8
            clear hT hr8
            generalize wr = wi at *
            cases l with
            | nil =>
              have C := minNone HT.out.at_.1
              have HL := Lib.hid (show L3 w w.heap.size mo [] wo.heap.size [] (.slice (some ⟨g, 0, none⟩) 8 cap8) wi from ⟨⟨F, HT.out.at_⟩, HT.out.tell⟩)
              obtain ⟨ao0, cp0, q0, _, _⟩ := HL.out.2.at 0 (by omega)
              rw [show (lvlOf [] (((0 : Nat) : Int) + 1)).length = 0 from rfl] at q0
              clear HT
              go_wp2_with fail
              refine C.mono ?_
              clear C
              rintro e w5 ⟨rfl, rfl⟩
              go_wp2
              go_loopw [15, 16] (fun gn i w7 => ∃ j : Nat, j ≤ 8 ∧ i = .int .i64 ((j + 1 : Nat) : Int) ∧ gn = .bool false ∧ L3 w w.heap.size mo [] wo.heap.size [] (.slice (some ⟨g, 0, none⟩) 8 cap8) w7) (fun _ i _ => 9 - (intOf i).toNat)
              case atStart => exact ⟨0, by omega, rfl, rfl, HL.out⟩
              case round =>
                obtain ⟨j, hj, rfl, rfl, hL⟩ := hrel
                clear HL q0
                have HL := Lib.hid hL
                clear hL
                by_cases hj8 : j < 8
                · obtain ⟨F5, a5⟩ := HL.out.1
                  have C := levelR a5.1 ((j : Int) + 1)
                  rw [show lvlOf [] ((j : Int) + 1) = [] from rfl] at C
                  have hje : ((j + 1 : Nat) : Int) = (j : Int) + 1 := by omega
                  have j8 : (j : Int) + 1 ≤ 8 := by omega
                  have je : (j : Int) + 1 - 1 = j := by omega
                  rw [hje]
                  clear hje a5
                  go_wp2_with fail
                  refine C.mono ?_
                  clear C
                  rintro e w8 ⟨ao, cap, rfl, hr8, _, _, bl8⟩
                  have HL8 := Lib.hid (HL.out.fresh bl8)
                  clear HL bl8
                  obtain ⟨ao1, cp1, q1, hr1, _⟩ := HL8.out.2.at j hj8
                  rw [show lvlOf [] ((j : Int) + 1) = [] from rfl] at q1 hr1
                  have C := sameEq w8 ao ao1 0 cap cp1 [] hr8 hr1 (by omega)
                  have j0 : (0 : Int) ≤ (j : Int) := by omega
                  clear hr8 hr1
                  go_wp2_with fail
                  refine C.mono ?_
                  clear C
                  rintro e w9 ⟨rfl, bl9⟩
                  have HL9 := Lib.hid (HL8.out.fresh bl9)
                  clear bl9 HL8 q1
                  go_wp2
                  go_roundw
                  case rel => exact ⟨j + 1, by omega, by go_num, rfl, HL9.out⟩
                  case measure => simp [intOf]; omega
                · obtain rfl : j = 8 := by omega
                  obtain ⟨F5, a5⟩ := HL.out.1
                  have HA5 := Lib.hid (show ListAt w w.heap.size mo wr from ⟨F5, _, a5⟩)
                  clear a5
                  go_wp2
                  go_roundw
                  case rel => exact ⟨k + 1, by omega, by go_num, HA5.out⟩
                  case measure => simp [intOf]; omega
            | cons i rest =>
              obtain ⟨hh1, hh8⟩ := HT.out.at_.1.hs i (by simp)
              have C := minOk i HT.out.at_.1
              go_wp2_with fail
              refine C.mono ?_
              clear C
              rintro e w5 ⟨rfl, d5⟩
              have HL := Lib.hid (minTell HT.out d5)
              clear d5 HT
              obtain ⟨ao0, cp0, q0, r0, _⟩ := HL.out.2.at 0 (by omega)
              rw [lvl_cons_in (k := 0) hh1] at q0 r0
              obtain ⟨b0, off0, rfl, _, hc0⟩ := r0.2 (by simp)
              have cv0 := hc0 0 (by simp)
              simp only [List.getD_cons_zero, Nat.add_zero, List.length_cons] at cv0 q0
              clear hc0 r0
              generalize (lvlOf rest (((0 : Nat) : Int) + 1)).length = n0 at *
              have hp0 : (0 : Int) < (n0 : Int) + 1 := by omega
              go_wp2
              go_loopw [15, 16] (fun gn i' w7 => ∃ j : Nat, j ≤ 8 ∧ i' = .int .i64 ((j + 1 : Nat) : Int) ∧ gn = .bool (decide (j ≤ i.h)) ∧ L3 w w.heap.size mo rest wo.heap.size (i :: rest) (.slice (some ⟨g, 0, none⟩) 8 cap8) w7) (fun _ i' _ => 9 - (intOf i').toNat)
              case atStart => exact ⟨0, by omega, rfl, by simp, HL.out⟩
              case round =>
                obtain ⟨j, hj, rfl, rfl, hL⟩ := hrel
                clear HL q0 cv0 hp0
                have HL := Lib.hid hL
                clear hL
                by_cases hj8 : j < 8
                · obtain ⟨F5, a5⟩ := HL.out.1
                  have C := levelR a5.1 ((j : Int) + 1)
                  have hn1 : (lvlOf rest ((j : Int) + 1)).length ≤ 1000 := by
                    have h1 := a5.1.len
                    have h2 := a5.1.mo
                    have h3 : (lvlOf rest ((j : Int) + 1)).length ≤ rest.length := by unfold lvlOf; rw [List.length_map]; exact List.length_filter_le _ _
                    omega
                  have hje : ((j + 1 : Nat) : Int) = (j : Int) + 1 := by omega
                  have j8 : (j : Int) + 1 ≤ 8 := by omega
                  have je : (j : Int) + 1 - 1 = j := by omega
                  rw [hje]
                  clear hje a5
                  go_wp2_with fail
                  refine C.mono ?_
                  clear C
                  rintro e w8 ⟨ao, cap, rfl, hr8, _, _, bl8⟩
                  have HL8 := Lib.hid (HL.out.fresh bl8)
                  clear HL bl8
                  obtain ⟨ao1, cp1, q1, hr1, hcp1⟩ := HL8.out.2.at j hj8
                  have j0 : (0 : Int) ≤ (j : Int) := by omega
                  by_cases hin : j + 1 ≤ i.h
                  · rw [lvl_cons_in hin] at q1 hr1 hcp1
                    rw [show decide (j ≤ i.h) = true from decide_eq_true (by omega)]
                    obtain ⟨b1, off1, rfl, _, _⟩ := hr1.2 (by simp)
                    simp only [List.length_cons] at q1 hr1 hcp1
                    have ht1 := readsTail hr1
                    have hl0 : (lvlOf rest ((j : Int) + 1)).length = 0 → lvlOf rest ((j : Int) + 1) = [] := List.eq_nil_of_length_eq_zero
                    generalize lvlOf rest ((j : Int) + 1) = zs at *
                    obtain ⟨n1, hnn⟩ : ∃ n1, zs.length = n1 := ⟨_, rfl⟩
                    rw [hnn] at q1 hr8 ht1 hcp1 hn1 hl0 ⊢
                    clear hr1 hnn
                    by_cases hc1 : cp1 = 1
                    · have hn0 : n1 = 0 := by omega
                      subst hn0 hc1
                      have hz := hl0 rfl
                      subst hz
                      clear hl0 ht1
                      have C := sameEq w8 ao (some ⟨b1, off1, none⟩) 0 cap (1 - 1) [] hr8 ⟨rfl, fun h => by omega⟩ (by omega)
                      go_wp2_with fail
                      refine C.mono ?_
                      clear C
                      rintro e w9 ⟨rfl, bl9⟩
                      have HL9 := Lib.hid (HL8.out.fresh bl9)
                      clear bl9 HL8
                      go_wp2
                      go_roundw
                      case rel => exact ⟨j + 1, by omega, by go_num, by rw [decide_eq_true hin], HL9.out⟩
                      case measure => simp [intOf]; omega
                    · clear hl0
                      have C := sameEq w8 ao (some ⟨b1, off1 + 1, none⟩) n1 cap (cp1 - 1) zs hr8 ht1 hn1
                      go_wp2_with fail
                      refine C.mono ?_
                      clear C
                      rintro e w9 ⟨rfl, bl9⟩
                      have HL9 := Lib.hid (HL8.out.fresh bl9)
                      clear bl9 HL8
                      go_wp2
                      go_roundw
                      case rel => exact ⟨j + 1, by omega, by go_num, by rw [decide_eq_true hin], HL9.out⟩
                      case measure => simp [intOf]; omega
                  · rw [lvl_cons_out hin] at q1 hr1
                    generalize lvlOf rest ((j : Int) + 1) = zs at *
                    obtain ⟨n1, hnn⟩ : ∃ n1, zs.length = n1 := ⟨_, rfl⟩
                    rw [hnn] at q1 hr8 hr1 hn1 ⊢
                    clear hnn
                    have hne1 : ((n1 : Int) == (n1 : Int) - 1) = false := by simp; omega
                    by_cases hgn : j ≤ i.h
                    · rw [show decide (j ≤ i.h) = true from decide_eq_true hgn]
                      have C := sameEq w8 ao ao1 n1 cap cp1 zs hr8 hr1 hn1
                      go_wp2_with fail
                      refine C.mono ?_
                      clear C
                      rintro e w9 ⟨rfl, bl9⟩
                      have HL9 := Lib.hid (HL8.out.fresh bl9)
                      clear bl9 HL8
                      go_wp2
                      go_roundw
                      case rel => exact ⟨j + 1, by omega, by go_num, by rw [decide_eq_false hin], HL9.out⟩
                      case measure => simp [intOf]; omega
                    · rw [show decide (j ≤ i.h) = false from decide_eq_false hgn]
                      have C := sameEq w8 ao ao1 n1 cap cp1 zs hr8 hr1 hn1
                      go_wp2_with fail
                      refine C.mono ?_
                      clear C
                      rintro e w9 ⟨rfl, bl9⟩
                      have HL9 := Lib.hid (HL8.out.fresh bl9)
                      clear bl9 HL8
                      go_wp2
                      go_roundw
                      case rel => exact ⟨j + 1, by omega, by go_num, by rw [decide_eq_false hin], HL9.out⟩
                      case measure => simp [intOf]; omega
                · obtain rfl : j = 8 := by omega
                  obtain ⟨F5, a5⟩ := HL.out.1
                  have HA5 := Lib.hid (show ListAt w w.heap.size mo wr from ⟨F5, _, a5⟩)
                  clear a5
                  go_wp2
                  go_roundw
                  case rel => exact ⟨k + 1, by omega, by go_num, HA5.out⟩
                  case measure => simp [intOf]; omega
      · obtain ⟨F4, a4⟩ : ∃ F, At w F w.heap.size mo l wo := ⟨F, HA4.out⟩
        go_wp2_with fail
        refine (known wo).mono ?_
        rintro e w5 ⟨rfl, bl5⟩
        have HQ := Lib.hid (a4.2.1.trans (bl5.mono a4.2.1.size))
        clear bl5 a4
        go_wp2
        go_ret
        exact ⟨rfl, HQ.out⟩

end Go.Proofs.Ytjcdbdhdmalfaaa
