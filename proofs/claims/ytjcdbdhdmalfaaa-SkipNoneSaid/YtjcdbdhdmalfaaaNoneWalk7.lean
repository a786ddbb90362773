/-
  The walk of SkipNone: for all numbers and lists it answers true and leaves all old memory as it was.
-/
import Derived.Test.YtjcdbdhdmalfaaaRising
namespace Go.Proofs.Ytjcdbdhdmalfaaa
open Go.RowKit

/-- A list of numbers that is written to: a row of its own, from block b on. -/
def NRow (b : Nat) (v : Value) (n : Nat) (W : World) : Prop :=
  n = 0 ∨ ∃ (g cap : Nat) (cs : Array Value), v = .slice (some ⟨g, 0, none⟩) n cap ∧ b ≤ g ∧ W.heap[g]? = some (.cells cs 21 (0, 0)) ∧ ∀ i, i < n → ∃ y, cs[i]? = some (.int .i32 y)

theorem NRow.of {w W : World} {v : Value} {zs : List Int} (h : W.ownsRow w.heap.size 21 1 v zs.length (zs.map (Value.int .i32))) : NRow w.heap.size v zs.length W := by
  rcases h.2 with ⟨rfl, e⟩ | ⟨g, cap, cur, rfl, hb, hg, hle, hm, hcs, ht⟩
  · exact .inl e
  · refine .inr ⟨g, cap, cur, rfl, hb, hg, fun i hi => ⟨zs.getD i 0, ?_⟩⟩
    have h1 := congrArg (fun l => l[i]?) ht
    simp only [Nat.mul_one, List.getElem?_take, List.getElem?_map] at h1
    rw [if_pos hi] at h1
    rw [← Array.getElem?_toList, h1]
    simp [List.getD, hi]

theorem NRow.keep {b n : Nat} {v : Value} {W W' : World} (h : NRow b v n W) (hb : ∀ g, b ≤ g → g < W.heap.size → W'.heap[g]? = W.heap[g]?) : NRow b v n W' := by
  rcases h with h | ⟨g, cap, cs, h1, h2, h3, h4⟩
  · exact .inl h
  · exact .inr ⟨g, cap, cs, h1, h2, (hb g h2 (lt_of_block h3)).trans h3, h4⟩

/-- What holds while the list that was told is written to. -/
def NRel (w : World) (F G : Nat → Prop) (p q : Nat) (mo : Int) (l : List It) (zs : List Int) (ao : Option Addr) (b : Nat) (v : Value) (W : World) : Prop :=
  Two w F G p q mo mo l l W ∧ Reads .i32 W ao zs.length zs ∧ NRow b v zs.length W

theorem NRel.store {w : World} {F G : Nat → Prop} {p q : Nat} {mo : Int} {l : List It} {zs : List Int} {ao : Option Addr} {b g c k : Nat} {W : World} {cs : Array Value} (h : NRel w F G p q mo l zs ao b (.slice (some ⟨g, 0, none⟩) zs.length c) W) (hlow : (∀ x, F x → x < b) ∧ (∀ x, G x → x < b) ∧ ∀ x, ao = some x → x.block < b)
    (hg : b ≤ g) (hcs : W.heap[g]? = some (.cells cs 21 (0, 0))) (hall : ∀ i, i < zs.length → ∃ y, cs[i]? = some (.int .i32 y)) (hk : k < zs.length) (y : Int) :
    NRel w F G p q mo l zs ao b (.slice (some ⟨g, 0, none⟩) zs.length c) (W.setCell ⟨g, k, none⟩ (.int .i32 y)) := by
  obtain ⟨ht, hr, _⟩ := h
  have hw : Wrote (fun x => x = g) W (W.setCell ⟨g, k, none⟩ (.int .i32 y)) := (Wrote.refl (fun x => x = g) W).setCell (.inr (show (⟨g, k, none⟩ : Addr).block = g from rfl)) _
  have hwg : w.heap.size ≤ g := by
    have h1 := ht.c.2.2 p ht.c.1.in
    have h2 := hlow.1 p ht.c.1.in
    omega
  have hat : ∀ {F : Nat → Prop} {p : Nat}, At w F p mo l W → (∀ x, F x → x < b) → At w F p mo l (W.setCell ⟨g, k, none⟩ (.int .i32 y)) := fun h hF =>
    ⟨h.1.apart hw fun x hx e => by have := hF x hx; omega, h.2.1.trans (hw.below h.2.1.size fun x e => by omega), h.2.2⟩
  refine ⟨⟨hat ht.c hlow.1, hat ht.d hlow.2.1, ht.ap⟩, hr.off (F := fun x => x = g) (fun x e hx => by have := hlow.2.2 x e; omega) hw, .inr ⟨g, c, _, rfl, hg, set_block hcs k _, fun i hi => ?_⟩⟩
  by_cases e : i = k
  · subst e
    obtain ⟨z, hz⟩ := hall i hi
    have hlt := (Array.getElem?_eq_some_iff.1 hz).1
    exact ⟨y, by simp [Array.getElem?_setIfInBounds, hlt]⟩
  · obtain ⟨z, hz⟩ := hall i hi
    exact ⟨z, by rw [Array.getElem?_setIfInBounds_ne (by omega)]; exact hz⟩

theorem Two.stepC {w a b : World} {F G : Nat → Prop} {p q : Nat} {most mo2 : Int} {bs bs' cs : List It} (h : Two w F G p q most mo2 bs cs a) (d : Did F p most bs' a b) : ∃ F', Two w F' G p q most mo2 bs' cs b ∧ Wrote F a b ∧ Later F F' a := by
  obtain ⟨F', k, wr, l⟩ := h.c.next d
  exact ⟨F', ⟨k, ⟨h.d.1.apart wr h.ap.symm, k.2.1, h.d.2.2⟩, l.apart h.ap h.d.lt⟩, wr, l⟩

theorem keepStep {F F' : Nat → Prop} {W W' : World} {ao : Option Addr} {n : Nat} {zs : List Int} (h : Reads .i32 W ao n zs) (ho : 0 < n → Off F ao) (hw : Wrote F W W') (hl : Later F F' W) : Reads .i32 W' ao n zs ∧ (0 < n → Off F' ao) := by
  by_cases h0 : n = 0
  · subst h0
    exact ⟨⟨h.1, fun h => by omega⟩, fun h => by omega⟩
  · refine ⟨h.off (ho (by omega)) hw, fun _ x e hf => ?_⟩
    obtain ⟨b, off, e2, hb, _⟩ := h.2 (by omega)
    rw [e2] at e
    injection e with e
    subst e
    exact hl.not (ho (by omega) _ e2) hb hf

set_option maxRecDepth 100000 in
set_option maxHeartbeats 16000000 in
theorem noneWalk {w : World} (a : Int) (bo : Option Addr) (m capb : Nat) (cs : List Int) (t : Int) (a0 : 0 ≤ a) (a1 : a ≤ 255) (hb : ArgBytes w bo m capb cs) (hlb : m ≤ 140737488351232) (t0 : -2147483648 ≤ t) (t1 : t ≤ 2147483647) :
    Calls Try.prog 7 #[.int .u8 a, .slice bo m capb, .int .i32 t] w fun e w' => e = .returned (.bool true) ∧ Below w.heap.size w w' := by
  obtain ⟨hb, _, _, hbz⟩ := hb
  have HC := Lib.hid hb
  have HCr := Lib.hid hbz
  clear hb hbz t0 t1
  have hmo : 0 ≤ 1 + a % 30 ∧ 1 + a % 30 ≤ 1000 := by omega
  go_enter Try.func7, Try.ntmps7
  go_wp2_with fail
  refine (newAny _ w).mono ?_
  rintro e w1 ⟨rfl, s1, bl1⟩
  rw [mostOf_self _ hmo.1 hmo.2] at s1
  have HA := Lib.hid (At.new s1 bl1)
  have HMo := Lib.hid hmo
  clear s1 bl1 hmo
  generalize 1 + a % 30 = mo at *
  by_cases hbig : 60 < m
  · go_wp2_with fail
    refine (known w1).mono ?_
    rintro e w2 ⟨rfl, bl2⟩
    have HQ := Lib.hid (HA.out.2.1.trans (bl2.mono HA.out.2.1.size))
    clear bl2
    go_wp2
    go_ret
    exact ⟨rfl, HQ.out⟩
  · have C := risingAny w1 bo m capb cs (HC.out.keep HA.out.2.1) HCr.out
    go_wp2_with fail
    refine C.mono ?_
    clear C
    rintro e w2 ⟨va, nv, capv, ha, nh, caph, vs, hs, rfl, rv, rh, cv, ch, n20, n15, nv1, nh1, bl2⟩
    have HA2 := Lib.hid (HA.out.fresh bl2)
    have C := batchAny HA2.out.1 va ha nv capv nh caph vs hs rv rh (fun x e hf => by have := nv1 x e; have := HA.out.lt _ hf; omega) (fun x e hf => by have := nh1 x e; have := HA.out.lt _ hf; omega) (by omega) cv
    clear rv rh nv1 nh1 bl2
    go_wp2_with fail
    refine C.mono ?_
    clear C
    intro e w3 hp
    obtain ⟨g3, _, he, _, d3⟩ := hp
    subst he
    obtain ⟨F3, a3, _, _⟩ := HA2.out.next d3
    have HA3 := Lib.hid a3
    clear d3 a3 HA HA2
    generalize insMany [] vs hs (roomOf mo [] vs) = l at *
    have C := copyAny HA3.out.1
    go_wp2_with fail
    refine C.mono ?_
    clear C
    rintro e w4 ⟨q, rfl, s4, bl4⟩
    have k4 := HA3.out.copied s4 bl4
    have HT4 := Lib.hid (show Two w F3 (New w3 w4) w.heap.size q mo mo l l w4 from ⟨HA3.out.fresh bl4, k4.1, k4.2⟩)
    clear s4 bl4 HA3 k4
    generalize New w3 w4 = G4 at *
    have C := itemsR HT4.out.d.1
    have C2 : ∀ W, Below w4.heap.size w4 W → Calls Try.prog 18 #[.pointer (some ⟨w.heap.size, 0, none⟩)] W (ToldL W (l.map It.v)) := fun W hW => itemsAny (HT4.out.fresh hW).c.1
    have hl1000 : (l.map It.v).length ≤ 1000 := by
      have h1 := HT4.out.c.1.len
      rw [List.length_map]
      have := HMo.out
      omega
    obtain ⟨zs, hzs⟩ : ∃ zs, l.map It.v = zs := ⟨_, rfl⟩
    rw [hzs] at C hl1000
    simp only [hzs] at C2
    have HZS := Lib.hid hzs
    have HC2 := Lib.hid C2
    clear hzs C2
    go_wp2_with fail
    refine C.mono ?_
    clear C
    rintro e w5 ⟨ao, cap, rfl, hr5, _, hao5, bl5⟩
    have HK5 := Lib.hid (And.intro hr5 (And.intro hao5 bl5))
    have HT5 := Lib.hid (HT4.out.fresh bl5)
    clear hr5 hao5 bl5
    have C := HC2.out w5 HK5.out.2.2
    clear HC2
    go_wp2_with fail
    refine C.mono ?_
    clear C
    rintro e w6 ⟨v6, rfl, ho6, bl6⟩
    have HN6 := Lib.hid (show NRel w F3 G4 w.heap.size q mo l zs ao w5.heap.size v6 w6 from ⟨HT5.out.fresh bl6, HK5.out.1.keep bl6, NRow.of ho6⟩)
    have HLow : Hid ((∀ x, F3 x → x < w5.heap.size) ∧ (∀ x, G4 x → x < w5.heap.size) ∧ (0 < zs.length → ∀ x, ao = some x → x.block < w5.heap.size)) := Lib.hid ⟨HT5.out.c.lt, HT5.out.d.lt, fun hp x e => by
      obtain ⟨b, off, e2, hb, _⟩ := HK5.out.1.2 hp
      rw [e2] at e
      injection e with e
      subst e
      exact hb⟩
    obtain ⟨ao6, cap6, rfl⟩ := ownShape ho6
    clear ho6 bl6
    go_wp2
    go_loopw [13] (fun i wr => ∃ k : Nat, k ≤ zs.length ∧ i = .int .i64 k ∧ NRel w F3 G4 w.heap.size q mo l zs ao w5.heap.size (.slice ao6 zs.length cap6) wr) (fun i _ => zs.length - (intOf i).toNat)
    case atStart => exact ⟨0, Nat.zero_le _, rfl, HN6.out⟩
    case round =>
      obtain ⟨k, hk, rfl, hN⟩ := hrel
      have HN := Lib.hid hN
      clear hN HN6
      by_cases hlt : k < zs.length
      · rcases HN.out.2.2 with h0 | ⟨g, c, cs7, e7, hg7, hb7, hall7⟩
        · omega
        · obtain ⟨y, hy⟩ := hall7 k hlt
          simp only [Value.slice.injEq] at e7
          obtain ⟨rfl, _, rfl⟩ := e7
          have cy : wr.cell? ⟨g, k, none⟩ = some (.int .i32 y) := by simp [World.cell?, hb7, hy]
          have fy : wr.frozen? ⟨g, k, none⟩ = false := by simp [World.frozen?, hb7]
          have HS : Hid (∀ z : Int, NRel w F3 G4 w.heap.size q mo l zs ao w5.heap.size (.slice (some ⟨g, 0, none⟩) zs.length cap6) (wr.setCell ⟨g, k, none⟩ (.int .i32 z))) := Lib.hid fun z => HN.out.store ⟨HLow.out.1, HLow.out.2.1, HLow.out.2.2 (by omega)⟩ hg7 hb7 hall7 hlt z
          have k0 : (0 : Int) ≤ (k : Int) := by omega
          clear hb7 hall7 hy hg7
          generalize zs.length = nn at *
          go_wp2
          go_roundw
          case rel => exact ⟨k + 1, by omega, by go_num, HS.out _⟩
          case measure => simp [intOf]; omega
      · obtain rfl : zs.length = k := by omega
        generalize wr = w7 at *
        have HO7 := Lib.hid (show 0 < zs.length → Off F3 ao from fun _ x e hf => by have := HK5.out.2.1 x e; have := HT4.out.c.lt _ hf; omega)
        have C := minAny HN.out.1.c.1
        go_wp2_with fail
        refine C.mono ?_
        clear C
        rintro e w8 ⟨rfl, d8⟩
        obtain ⟨F8, t8, wr8, lt8⟩ := HN.out.1.stepC d8
        have HT8 := Lib.hid t8
        have HK8 := Lib.hid (keepStep HN.out.2.1 HO7.out wr8 lt8)
        clear d8 t8 wr8 lt8 HN HO7
        have C := insertAny HT8.out.c.1 t 3
        go_wp2_with fail
        refine C.mono ?_
        clear C
        rintro e w9 ⟨rfl, d9⟩
        obtain ⟨F9, t9, wr9, lt9⟩ := HT8.out.stepC d9
        have HT9 := Lib.hid t9
        have HK9 := Lib.hid (keepStep HK8.out.1 HK8.out.2 wr9 lt9).1
        clear d9 t9 wr9 lt9 HT8 HK8
        generalize decide (((l.tail.length : Nat) : Int) < mo) = gotIt at *
        go_wp2_with fail
        refine (minNil _).mono ?_
        rintro e w' ⟨rfl, rfl⟩
        go_wp2_with fail
        refine (batchNil w9 va nv capv _ (by omega)).mono ?_
        rintro e w10 ⟨rfl, hb10, bl10⟩
        have HT10 := Lib.hid (HT9.out.fresh bl10)
        have HK10 := Lib.hid (HK9.out.keep bl10)
        have HB10 := Lib.hid hb10
        clear hb10 bl10 HT9 HK9
        go_wp2
        go_loopw [16, 18] (fun s i wi => ∃ k : Nat, k ≤ nv ∧ i = .int .i64 k ∧ s = .bool false ∧ w10 = wi) (fun _ i _ => nv - (intOf i).toNat)
        case atStart => exact ⟨0, Nat.zero_le _, rfl, rfl, rfl⟩
        case round =>
          obtain ⟨k, hk, rfl, rfl, rfl⟩ := hrel
          by_cases hkn : k < nv
          · have cb : w10.cell? ⟨w9.heap.size, k, none⟩ = some (.bool false) := by simp [World.cell?, HB10.out, toldB, hkn]
            have k0 : (0 : Int) ≤ (k : Int) := by omega
            go_wp2
            go_roundw
            case rel => exact ⟨k + 1, by omega, by go_num, rfl, trivial⟩
            case measure => simp [intOf]; omega
          · obtain rfl : nv = k := by omega
            go_wp2_with fail
            refine (known _).mono ?_
            rintro e w11 ⟨rfl, bl11⟩
            have HT11 := Lib.hid (HT10.out.fresh bl11)
            have HK11 := Lib.hid (HK10.out.keep bl11)
            clear bl11 HT10 HK10 HB10
            have C := itemsR HT11.out.d.1
            rw [HZS.out] at C
            go_wp2_with fail
            refine C.mono ?_
            clear C
            rintro e w12 ⟨ao12, cap12, rfl, hr12, _, _, bl12⟩
            have HT12 := Lib.hid (HT11.out.fresh bl12)
            have C := sameEq w12 ao12 ao zs.length cap12 cap zs hr12 (HK11.out.keep bl12) hl1000
            clear hr12 bl12 HT11 HK11
            generalize zs.length = nn at *
            go_wp2_with fail
            refine C.mono ?_
            clear C
            rintro e w13 ⟨rfl, bl13⟩
            have HT13 := Lib.hid (HT12.out.fresh bl13).c.2.1
            clear bl13 HT12
            go_wp2_with (first | (go_at_call 15; refine (insertNil _ _ _).mono ?_; rintro e w' ⟨rfl, rfl⟩) | (go_at_call 20; refine (lenNil _).mono ?_; rintro e w' ⟨rfl, rfl⟩) | (go_at_call 25; refine (mostNil _).mono ?_; rintro e w' ⟨rfl, rfl⟩) | (go_at_call 18; refine (itemsNil _).mono ?_; rintro e w' ⟨rfl, rfl⟩))
            refine (copyNil _).mono ?_
            rintro e w14 ⟨r, rfl, s14, bl14⟩
            have C := lenAny s14
            have HQ := Lib.hid (HT13.out.trans (bl14.mono HT13.out.size))
            clear s14 bl14 HT13
            go_wp2_with fail
            refine C.mono ?_
            clear C
            rintro e w' ⟨rfl, rfl⟩
            go_wp2
            go_ret
            exact ⟨rfl, HQ.out⟩

end Go.Proofs.Ytjcdbdhdmalfaaa
