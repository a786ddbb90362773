/-
  The walk of SkipLevels: for all numbers and lists it answers true and leaves all old memory as it was.
-/
import Derived.Test.YtjcdbdhdmalfaaaRising
namespace Go.Proofs.Ytjcdbdhdmalfaaa
open Go.RowKit

def ListAt (w : World) (p : Nat) (mo : Int) (wr : World) : Prop := ∃ F l, At w F p mo l wr

theorem lvl_sub {L : List It} {j k : Int} (hj : 1 ≤ j) (hk : j ≤ k) : (lvlOf L k).Sublist (lvlOf L j) := by
  unfold lvlOf
  refine List.Sublist.map _ ?_
  rw [show L.filter (fun i => decide (1 ≤ k ∧ k ≤ (i.h : Int))) = (L.filter (fun i => decide (1 ≤ j ∧ j ≤ (i.h : Int)))).filter (fun i => decide (1 ≤ k ∧ k ≤ (i.h : Int))) from ?_]
  · exact List.filter_sublist
  · rw [List.filter_filter]
    refine List.filter_congr fun i _ => ?_
    by_cases h : 1 ≤ k ∧ k ≤ (i.h : Int)
    · rw [decide_eq_true h, decide_eq_true ⟨hj, by omega⟩]; rfl
    · rw [decide_eq_false h]; rfl
theorem lvl_rise {L : List It} {k : Int} (h : Rise (L.map It.v)) : Rise (lvlOf L k) := List.Pairwise.sublist (List.Sublist.map _ List.filter_sublist) h
theorem rise_at {xs : List Int} (h : Rise xs) {i : Nat} (h0 : 0 < i) (hi : i < xs.length) : xs.getD (i - 1) 0 ≤ xs.getD i 0 := by
  have := List.pairwise_iff_getElem.1 h (i - 1) i (by omega) hi (by omega)
  simpa [List.getD, hi, show i - 1 < xs.length by omega] using this

theorem sub_skip {x b : Int} {xs bs : List Int} (h : (x :: xs).Sublist (b :: bs)) (hne : ¬ b = x) : (x :: xs).Sublist bs := by
  cases h with
  | cons _ h => exact h
  | cons_cons _ h => exact absurd rfl hne

/-- Two lists that were told, and the list beside them. -/
structure LR (w : World) (F : Nat → Prop) (p : Nat) (mo : Int) (L : List It) (ab ax : Option Addr) (bs xs : List Int) (W : World) : Prop where
  at_ : At w F p mo L W
  rb : Reads .i32 W ab bs.length bs
  rx : Reads .i32 W ax xs.length xs
theorem LR.drewN {w : World} {F : Nat → Prop} {p : Nat} {mo : Int} {L : List It} {ab ax : Option Addr} {bs xs : List Int} {W : World} (h : LR w F p mo L ab ax bs xs W) (q : Nat) : LR w F p mo L ab ax bs xs (W.drewN q) :=
  ⟨h.at_.fresh ⟨rfl, rfl, rfl, Nat.le_refl _, fun _ _ => rfl⟩, h.rb, h.rx⟩

theorem dropAt {xs : List Int} {i : Nat} (h : i < xs.length) : xs.drop i = xs.getD i 0 :: xs.drop (i + 1) := by
  rw [List.drop_eq_getElem_cons h]; simp [List.getD, h]

set_option maxRecDepth 100000 in
set_option maxHeartbeats 16000000 in
theorem levelsWalk {w : World} (a : Int) (bo : Option Addr) (m capb : Nat) (cs : List Int) (ao : Option Addr) (n cap : Nat) (zs : List Int) (a0 : 0 ≤ a) (a1 : a ≤ 255) (hb : ArgBytes w bo m capb cs) (hlb : m ≤ 140737488351232) (ha : ArgInt32s w ao n cap zs) (hla : n ≤ 140737488351232) :
    Calls Try.prog 5 #[.int .u8 a, .slice bo m capb, .slice ao n cap] w fun e w' => e = .returned (.bool true) ∧ Below w.heap.size w w' := by
  obtain ⟨hb, _, _, hbz⟩ := hb
  obtain ⟨ha, _, _, _⟩ := ha
  have HC := Lib.hid hb
  have HCr := Lib.hid hbz
  have HZ := Lib.hid ha
  clear hb hbz ha
  have hmo : 0 ≤ a ∧ a ≤ 1000 := by omega
  go_enter Try.func5, Try.ntmps5
  go_wp2_with fail
  refine (newAny _ w).mono ?_
  rintro e w1 ⟨rfl, s1, bl1⟩
  rw [mostOf_self _ hmo.1 hmo.2] at s1
  have HA := Lib.hid (At.new s1 bl1)
  clear s1 bl1 hmo
  by_cases hbig : 150 < m + n
  · have hbig2 : (150 : Int) < (m : Int) + n := by omega
    go_wp2_with fail
    refine (known w1).mono ?_
    rintro e w2 ⟨rfl, bl2⟩
    have HQ := Lib.hid (HA.out.2.1.trans (bl2.mono HA.out.2.1.size))
    clear bl2
    go_wp2
    go_ret
    exact ⟨rfl, HQ.out⟩
  · have hbig2 : ¬ (150 : Int) < (m : Int) + n := by omega
    have C := risingAny w1 bo m capb cs (HC.out.keep HA.out.2.1) HCr.out
    go_wp2_with fail
    refine C.mono ?_
    clear C
    rintro e w2 ⟨va, nv, capv, ha, nh, caph, vs, hs, rfl, rv, rh, cv, ch, n20, n15, nv1, nh1, bl2⟩
    have HA2 := Lib.hid (HA.out.fresh bl2)
    have C := batchAny HA2.out.1 va ha nv capv nh caph vs hs rv rh (fun x e hf => by have := nv1 x e; have := HA.out.lt _ hf; omega) (fun x e hf => by have := nh1 x e; have := HA.out.lt _ hf; omega) (by omega) cv
    clear rv rh nv1 nh1 bl2
    go_wp2_with fail
    refine C.mono ?_
    clear C
    intro e w3 hp
    obtain ⟨g3, _, he, _, d3⟩ := hp
    subst he
    obtain ⟨F3, a3, _, _⟩ := HA2.out.next d3
    have HA3 := Lib.hid (show ListAt w w.heap.size a w3 from ⟨F3, _, a3⟩)
    clear d3 a3 HA HA2
    have hn150 : n ≤ 150 := by omega
    go_wp2
    go_loopw [10] (fun i wr => ∃ k : Nat, k ≤ n ∧ i = .int .i64 k ∧ ListAt w w.heap.size a wr) (fun i _ => n - (intOf i).toNat)
    case atStart => exact ⟨0, by omega, rfl, HA3.out⟩
    case round =>
      obtain ⟨k, hk, rfl, F, L, a4⟩ := hrel
      clear HA3
      have HA4 := Lib.hid a4
      clear a4
      by_cases hlt : k < n
      · obtain ⟨b, off, rfl, hbl, hc⟩ := HZ.out.2 (by omega)
        have cz := (HA4.out.2.1.cell (p := ⟨b, off + k, none⟩) hbl).trans (hc k hlt)
        have k0 : (0 : Int) ≤ (k : Int) := by omega
        have kn : (k : Int) < n := by omega
        have C : ∀ hv : Int, _ := fun hv => insertAny HA4.out.1 (zs.getD k 0) hv
        clear hc hlt
        generalize zs.getD k 0 = z at *
        go_wp2_with fail
        refine (C _).mono ?_
        clear C
        rintro e w5 ⟨rfl, d5⟩
        obtain ⟨F5, a5, _, _⟩ := HA4.out.next d5
        have HA5 := Lib.hid (show ListAt w w.heap.size a w5 from ⟨F5, _, a5⟩)
        clear d5 a5 HA4
        go_wp2
        go_roundw
        case rel => exact ⟨k + 1, by omega, by go_num, HA5.out⟩
        case measure => simp [intOf]; omega
      · obtain rfl : n = k := by omega
        have C := itemsR HA4.out.1
        rw [← lvlOf_one HA4.out.1.hs] at C
        generalize wr = w4 at *
        go_wp2_with fail
        refine C.mono ?_
        clear C
        rintro e w5 ⟨ab, capx, rfl, rb5, _, _, bl5⟩
        have HA5 := Lib.hid (HA4.out.fresh bl5)
        have HB5 := Lib.hid rb5
        have hL : L.length ≤ 1000 := by have h1 := HA4.out.1.len; omega
        have HSo := Lib.hid HA4.out.1.so
        have HHs := Lib.hid HA4.out.1.hs
        clear rb5 bl5 HA4
        go_wp2
        go_loopw [11, 12] (fun v i wr => ∃ (j : Nat) (ab : Option Addr) (cb : Nat), j ≤ 8 ∧ i = .int .i64 ((j + 1 : Nat) : Int) ∧ v = .slice ab (lvlOf L ((max j 1 : Nat) : Int)).length cb ∧ Reads .i32 wr ab (lvlOf L ((max j 1 : Nat) : Int)).length (lvlOf L ((max j 1 : Nat) : Int)) ∧ At w F w.heap.size a L wr) (fun _ i _ => 9 - (intOf i).toNat)
        case atStart => exact ⟨0, _, _, by omega, rfl, rfl, HB5.out, HA5.out⟩
        case round =>
          obtain ⟨j, ab6, cb6, hj, rfl, rfl, rb6, a6⟩ := hrel
          clear HA5 HB5
          have HA6 := Lib.hid a6
          have HB6 := Lib.hid rb6
          clear a6 rb6
          by_cases hj8 : j < 8
          · have C := levelR HA6.out.1 ((j + 1 : Nat) : Int)
            have HSub := Lib.hid (lvl_sub (L := L) (j := ((max j 1 : Nat) : Int)) (k := ((j + 1 : Nat) : Int)) (by omega) (by omega))
            have HRx := Lib.hid (lvl_rise (k := ((j + 1 : Nat) : Int)) HSo.out)
            have HLen : Hid (j = 0 → (lvlOf L ((j + 1 : Nat) : Int)).length = L.length) := Lib.hid fun h => by subst h; rw [show ((0 + 1 : Nat) : Int) = 1 from rfl, lvlOf_one HHs.out, List.length_map]
            have hbn : (lvlOf L ((max j 1 : Nat) : Int)).length ≤ 1000 := by
              have : (lvlOf L ((max j 1 : Nat) : Int)).length ≤ L.length := by unfold lvlOf; rw [List.length_map]; exact List.length_filter_le _ _
              omega
            have hxn : (lvlOf L ((j + 1 : Nat) : Int)).length ≤ 1000 := by
              have : (lvlOf L ((j + 1 : Nat) : Int)).length ≤ L.length := by unfold lvlOf; rw [List.length_map]; exact List.length_filter_le _ _
              omega
            have HM1 := Lib.hid (show max (j + 1) 1 = j + 1 by omega)
            have j8 : ((j + 1 : Nat) : Int) ≤ 8 := by omega
            obtain ⟨xs, hxs⟩ : ∃ xs, lvlOf L ((j + 1 : Nat) : Int) = xs := ⟨_, rfl⟩
            rw [hxs] at C HSub HRx HLen hxn
            have HXs := Lib.hid hxs
            clear hxs
            generalize lvlOf L ((max j 1 : Nat) : Int) = bs at *
            generalize hjj : j + 1 = jj at *
            have HJJ := Lib.hid hjj
            clear hjj
            go_wp2_with fail
            refine C.mono ?_
            clear C
            rintro e w7 ⟨ax, cx, rfl, rx7, _, _, bl7⟩
            have HR7 := Lib.hid (show LR w F w.heap.size a L ab6 ax bs xs w7 from ⟨HA6.out.fresh bl7, HB6.out.keep bl7, rx7⟩)
            clear rx7 bl7 HA6 HB6
            go_wp2
            go_loopw [14, 15] (fun at_ i wi => ∃ (t u : Nat), u ≤ xs.length ∧ t ≤ bs.length ∧ i = .int .i64 u ∧ at_ = .int .i64 t ∧ (xs.drop u).Sublist (bs.drop t) ∧ LR w F w.heap.size a L ab6 ax bs xs wi) (fun _ i _ => xs.length - (intOf i).toNat)
            case atStart => exact ⟨0, 0, Nat.zero_le _, Nat.zero_le _, rfl, rfl, by simpa using HSub.out, HR7.out⟩
            case round =>
              obtain ⟨t, u, hu, ht, rfl, rfl, hsub, hR⟩ := hrel
              have HR8 := Lib.hid hR
              have HS8 := Lib.hid hsub
              clear hR hsub HR7
              by_cases hul : u < xs.length
              · have u0 : (0 : Int) ≤ (u : Int) := by omega
                go_wp2
                go_loopw [14] (fun at_ wi => ∃ t : Nat, t ≤ bs.length ∧ at_ = .int .i64 t ∧ (xs.drop u).Sublist (bs.drop t) ∧ LR w F w.heap.size a L ab6 ax bs xs wi) (fun at_ _ => bs.length - (intOf at_).toNat)
                case atStart => exact ⟨t, ht, rfl, HS8.out, HR8.out⟩
                case round =>
                  obtain ⟨t, ht, rfl, hsub, hR⟩ := hrel
                  clear HR8 HS8
                  have HR9 := Lib.hid hR
                  clear hR
                  rw [dropAt hul] at hsub
                  have htl : t < bs.length := by
                    rcases Nat.lt_or_ge t bs.length with h | h
                    · exact h
                    · rw [List.drop_of_length_le h] at hsub
                      cases hsub
                  rw [dropAt htl] at hsub
                  obtain ⟨b1, o1, hab, _, hc1⟩ := HR9.out.rb.2 (by omega)
                  obtain ⟨b2, o2, hax, _, hc2⟩ := HR9.out.rx.2 (by omega)
                  have c1 := hc1 t htl
                  have c2 := hc2 u hul
                  have t0 : (0 : Int) ≤ (t : Int) := by omega
                  have tl : (t : Int) < bs.length := by omega
                  have ul : (u : Int) < xs.length := by omega
                  clear hc1
                  subst hab hax
                  by_cases he : bs.getD t 0 = xs.getD u 0
                  · rw [he] at c1
                    have HNx := Lib.hid (show (xs.drop (u + 1)).Sublist (bs.drop (t + 1)) by rw [he] at hsub; exact List.cons_sublist_cons.1 hsub)
                    have tne : ((t : Int) == (bs.length : Int)) = false := by simp; omega
                    clear hsub he
                    by_cases hu0 : u = 0
                    · subst hu0
                      rw [Nat.add_zero] at c2
                      clear hc2
                      generalize xs.getD 0 0 = z at *
                      go_wp2
                      go_quiet (fail)
                      have HR10 := Lib.hid (HR9.out.drewN nq)
                      clear HR9 c1 c2
                      generalize wr.drewN nq = wd at *
                      go_wp2
                      go_quiet (fail)
                      have HR11 := Lib.hid (HR10.out.drewN nq)
                      go_wp2
                      go_roundw
                      case rel => exact ⟨t + 1, 0 + 1, by omega, by omega, by go_num, by go_num, HNx.out, HR11.out⟩
                      case measure => simp [intOf]; omega
                    · have hle := rise_at HRx.out (by omega) hul
                      have c3 := hc2 (u - 1) (by omega)
                      obtain ⟨v, hv⟩ : ∃ v, v = u - 1 := ⟨_, rfl⟩
                      rw [← hv] at c3 hle
                      have e1 : ((u : Int) - 1) = (v : Int) := by omega
                      have e2 : IntKind.i64.wrap ((u : Int) - 1) = (v : Int) := by rw [IntKind.wrap_i64]; omega
                      have up : (0 : Int) < (u : Int) := by omega
                      have up1 : decide (0 < u) = true := decide_eq_true (by omega)
                      have up2 : 0 < u := by omega
                      have v0 : (0 : Int) ≤ (v : Int) := by omega
                      have vl : (v : Int) < xs.length := by omega
                      clear hc2 hv
                      generalize xs.getD u 0 = z at *
                      generalize xs.getD v 0 = z1 at *
                      go_wp2
                      go_quiet (fail)
                      have HR10 := Lib.hid (HR9.out.drewN nq)
                      have c2' : (wr.drewN nq).cell? ⟨b2, o2 + u, none⟩ = some (.int .i32 z) := c2
                      have c3' : (wr.drewN nq).cell? ⟨b2, o2 + v, none⟩ = some (.int .i32 z1) := c3
                      clear HR9 c1 c2 c3
                      generalize wr.drewN nq = wd at *
                      go_wp2
                      go_quiet (fail)
                      have HR11 := Lib.hid (HR10.out.drewN nq)
                      clear e1 e2
                      go_wp2
                      go_roundw
                      case rel => exact ⟨t + 1, u + 1, by omega, by omega, by go_num, by go_num, HNx.out, HR11.out⟩
                      case measure => simp [intOf]; omega
                  · have HNx := Lib.hid (show (xs.drop u).Sublist (bs.drop (t + 1)) by
                      rw [dropAt hul]
                      exact sub_skip hsub he)
                    have hd : (bs.getD t 0 != xs.getD u 0) = true := by simpa using he
                    clear hsub hc2
                    generalize bs.getD t 0 = y at *
                    generalize xs.getD u 0 = z at *
                    go_wp2
                    go_quiet (fail)
                    have HR10 := Lib.hid (HR9.out.drewN nq)
                    clear HR9
                    go_wp2
                    go_roundw
                    case rel => exact ⟨t + 1, by omega, by go_num, HNx.out, HR10.out⟩
                    case measure => simp [intOf]; omega
              · have hxl : u = xs.length := by omega
                have hge : ¬ (u : Int) < xs.length := by omega
                have HEnd : Hid (∀ W, LR w F w.heap.size a L ab6 ax bs xs W → Reads .i32 W ax (lvlOf L ((max jj 1 : Nat) : Int)).length (lvlOf L ((max jj 1 : Nat) : Int)) ∧ (lvlOf L ((max jj 1 : Nat) : Int)).length = xs.length) := Lib.hid fun W h => by
                  rw [show max jj 1 = jj by have := HJJ.out; omega, HXs.out]
                  exact ⟨h.rx, rfl⟩
                generalize wr = w8 at *
                by_cases hj0 : j = 0
                · have hj1 : jj = 1 := by have := HJJ.out; omega
                  have C := lenAny HR8.out.at_.1
                  rw [← HLen.out hj0] at C
                  have HE := Lib.hid (HEnd.out _ HR8.out)
                  have HA := Lib.hid HR8.out.at_
                  have HJ1 := Lib.hid hj1
                  subst hj1
                  clear HEnd HR8 HS8
                  go_wp2_with (go_at_call 20; refine C.mono ?_; rintro e w' ⟨rfl, rfl⟩)
                  go_roundw
                  case rel => exact ⟨1, ax, cx, by omega, rfl, by first | rfl | rw [HE.out.2], HE.out.1, HA.out⟩
                  case measure => have := HJJ.out; simp [intOf] <;> omega
                · have hjn : ((jj : Int) == 1) = false := by have := HJJ.out; simp; omega
                  have HE := Lib.hid (HEnd.out _ HR8.out)
                  have HA := Lib.hid HR8.out.at_
                  clear HEnd HR8 HS8
                  go_wp2
                  go_roundw
                  case rel => exact ⟨jj, ax, cx, by omega, by go_num, by first | rfl | rw [HE.out.2], HE.out.1, HA.out⟩
                  case measure => have := HJJ.out; simp [intOf] <;> omega
          · obtain rfl : j = 8 := by omega
            go_wp2_with fail
            refine (known _).mono ?_
            rintro e w9 ⟨rfl, bl9⟩
            have HQ := Lib.hid (HA6.out.2.1.trans (bl9.mono HA6.out.2.1.size))
            clear bl9
            go_wp2
            go_ret
            exact ⟨rfl, HQ.out⟩

end Go.Proofs.Ytjcdbdhdmalfaaa
