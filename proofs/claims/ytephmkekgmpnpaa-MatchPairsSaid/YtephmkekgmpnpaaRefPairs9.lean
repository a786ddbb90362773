/-
  What reaperref09.Pairs and reaperref09.Spared answer. Conditions: operations that lie in memory, at most a thousand.
-/
import Derived.Test.YtephmkekgmpnpaaRefPl9
import Derived.Deep.CutBlock
namespace Go.Proofs.Ytephmkekgmpnpaa
open Go.RowKit

theorem refMost (n : Int) (w : World) :
    Calls Try.prog 40 #[.int .i64 n] w fun e w' => e = .returned (.int .i64 (mostOf n)) ∧ w = w' := by
  rcases (show n < 0 ∨ 1000 < n ∨ (0 ≤ n ∧ n ≤ 1000) from by omega) with h | h | h
  · have HE := Lib.hid (show mostOf n = 0 by unfold mostOf; rw [if_pos h])
    have h2 : n < 1000 := by omega
    go_enter Try.func40, Try.ntmps40
    go_wp2
    go_ret
    exact ⟨by rw [HE.out]; rfl, rfl⟩
  · have HE := Lib.hid (show mostOf n = 1000 by unfold mostOf; rw [if_neg (by omega), if_pos h])
    go_enter Try.func40, Try.ntmps40
    go_wp2
    go_ret
    exact ⟨by rw [HE.out]; rfl, rfl⟩
  · have HE := Lib.hid (mostOf_self n h.1 h.2)
    obtain ⟨h0, h1⟩ := h
    rcases (show n = 0 ∨ n = 1000 ∨ (0 < n ∧ n < 1000) from by omega) with h | h | ⟨h2, h3⟩
    · subst h
      go_enter Try.func40, Try.ntmps40
      go_wp2
      go_ret
      exact ⟨by rw [HE.out]; rfl, rfl⟩
    · subst h
      go_enter Try.func40, Try.ntmps40
      go_wp2
      go_ret
      exact ⟨by rw [HE.out]; rfl, rfl⟩
    · go_enter Try.func40, Try.ntmps40
      go_wp2
      go_ret
      exact ⟨by rw [HE.out]; rfl, rfl⟩

/-- What the document's Pairs leaves. -/
def RefPost (w : World) (most there : Int) (ks : Nat → Int) (n : Nat) (e : Ending) (w' : World) : Prop :=
  ∃ ap cp ac cc, e = .returned (.tuple #[.slice ap n cp, .slice ac n cc]) ∧ Reads .i64 w' ap n (pairsL most there ks n) ∧ Reads .u8 w' ac n (codesL most there ks n) ∧ Below w.heap.size w w'

set_option maxRecDepth 100000 in
set_option maxHeartbeats 16000000 in
theorem refPairs (w : World) (x most : Int) (ao : Option Addr) (n cap : Nat) (os : List (Int × Int)) (ho : OpsAt w ao n os) (hn : n ≤ 1000) :
    Calls Try.prog 22 #[.int .i64 x, .int .i64 most, .slice ao n cap] w (RefPost w (mostOf most) (haveOf x (mostOf most)) (kindsOf os) n) := by
  obtain ⟨i0, hi, hz0, hz1, hz2⟩ := info_parts infoI
  obtain ⟨j0, hj, hy0, hy1, hy2⟩ := info_parts infoU8
  have HO := Lib.hid ho
  have HS := Lib.hid (R3.start w)
  clear ho
  go_enter Try.func22, Try.ntmps22
  go_wp2_with (go_at_call 40; refine (refMost _ _).mono ?_; rintro e w' ⟨rfl, rfl⟩)
  have hm := mostOf_in most
  generalize mostOf most = m at *
  obtain ⟨m0, m1⟩ := hm
  have hh := haveOf_in x m m0
  obtain ⟨hN, hhN⟩ : ∃ hN : Nat, haveOf x m = hN := ⟨(haveOf x m).toNat, by omega⟩
  have hN2 : hN ≤ 1000 := by omega
  have HHN := Lib.hid hhN
  have HH := Lib.hid hh
  clear hh hhN
  go_loopw [9, 10] (fun v i wr => ∃ k : Nat, k ≤ hN ∧ i = .int .i64 k ∧ Hid (R3 w.heap.size w v (.slice none 0 0) (.slice none 0 0) (List.replicate k (-1)) [] [] wr)) (fun _ i _ => hN - (intOf i).toNat)
  case atStart => exact ⟨0, Nat.zero_le _, rfl, HS⟩
  case round =>
    obtain ⟨k, hk, rfl, HR⟩ := hrel
    clear HS
    by_cases hlt : k < hN
    · go_upto_region 4 with (fail)
      go_cut [23] from 18 to 23 (fun s wx => s = .bool true ∧ wr = wx)
      case first =>
        have hkh : (k : Int) < haveOf x m := by rw [HHN.out]; omega
        rcases haveOf_cases x m m0 with ⟨⟨h1, h2⟩, he⟩ | ⟨⟨h1, h2⟩, he⟩ | ⟨⟨h1, h2⟩, he⟩ | ⟨⟨h1, h2⟩, he⟩ | ⟨⟨h1, h2⟩, he⟩ | ⟨⟨h1, h2⟩, he⟩ | ⟨⟨h1, h2⟩, he⟩ | ⟨⟨h1, h2⟩, he⟩
        · rw [he] at hkh
          clear he
          subst h2
          have g1 : ¬ 0 < x := by omega
          have g2 : x < 0 := h1
          first
            | omega
            | (go_wp2_with fail
               go_meet
               exact ⟨rfl, rfl⟩)
        · rw [he] at hkh
          clear he
          have g1 : ¬ 0 < x := by omega
          have g3 : ¬ m < x := by omega
          have g4 : ¬ m ≤ x := by omega
          have g5 : x < m := by omega
          first
            | omega
            | (go_wp2_with fail
               go_meet
               exact ⟨rfl, rfl⟩)
        · rw [he] at hkh
          clear he
          subst h1 h2
          first
            | omega
            | (go_wp2_with fail
               go_meet
               exact ⟨rfl, rfl⟩)
        · rw [he] at hkh
          clear he
          subst h1
          have g3 : ¬ m < 0 := by omega
          first
            | omega
            | (go_wp2_with fail
               go_meet
               exact ⟨rfl, rfl⟩)
        · rw [he] at hkh
          clear he
          have g1 : ¬ x < 0 := by omega
          have g3 : ¬ m < x := by omega
          have g4 : ¬ m ≤ x := by omega
          first
            | omega
            | (go_wp2_with fail
               go_meet
               exact ⟨rfl, rfl⟩)
        · rw [he] at hkh
          clear he
          subst h2
          have g1 : ¬ x < 0 := by omega
          first
            | omega
            | (go_wp2_with fail
               go_meet
               exact ⟨rfl, rfl⟩)
        · rw [he] at hkh
          clear he
          have g1 : ¬ m < 0 := by omega
          have g3 : ¬ x < m := by omega
          have g4 : ¬ x ≤ m := by omega
          first
            | omega
            | (go_wp2_with fail
               go_meet
               exact ⟨rfl, rfl⟩)
        · rw [he] at hkh
          clear he
          subst h1
          have g1 : ¬ x < 0 := by omega
          have g3 : ¬ x ≤ 0 := by omega
          first
            | omega
            | (go_wp2_with fail
               go_meet
               exact ⟨rfl, rfl⟩)
      case' rest => skip
      obtain ⟨rfl, rfl⟩ := hcut
      have hl : (List.replicate k (-1 : Int)).length = k := by simp
      have ho := HR.out.o1
      rw [hl] at ho
      go_wp2_with (at_builtin; refine wpList_append_later rfl _ _ 34 rfl w.heap.size 3 i0 _ 1 8 Try.underlying34 hi hz0 hz1 hz2 rfl (by decide) _ k _ rfl (ho.alloc _) ⟨wr.heap.size, 0, none⟩ 1 1 [.int .i64 (-1)] rfl rfl (by intro j u hu; cases j <;> simp at hu; subst hu; go_simp) (by intro u hu; simp at hu; subst hu; rfl) (by simp only [maxLen]; omega) (by omega) (Nat.le_trans HR.out.s (by simp)) ?_; intro v' w1 q g l; have HN := Lib.hid ((HR.out.alloc _).app1 (by rw [hl]; exact q) g l); clear q g l)
      go_roundw
      case rel => exact ⟨k + 1, by omega, by go_num, by rw [List.replicate_succ']; exact HN⟩
      case measure => simp [intOf]; omega
    · obtain rfl : hN = k := by omega
      go_upto_region 4 with (fail)
      go_cut [23] from 18 to 23 (fun s wx => s = .bool false ∧ wr = wx)
      case first =>
        have hkh : ¬ (hN : Int) < haveOf x m := by rw [HHN.out]; omega
        rcases haveOf_cases x m m0 with ⟨⟨h1, h2⟩, he⟩ | ⟨⟨h1, h2⟩, he⟩ | ⟨⟨h1, h2⟩, he⟩ | ⟨⟨h1, h2⟩, he⟩ | ⟨⟨h1, h2⟩, he⟩ | ⟨⟨h1, h2⟩, he⟩ | ⟨⟨h1, h2⟩, he⟩ | ⟨⟨h1, h2⟩, he⟩
        · rw [he] at hkh
          clear he
          subst h2
          have g1 : ¬ 0 < x := by omega
          have g2 : x < 0 := h1
          first
            | omega
            | (go_wp2_with fail
               go_meet
               exact ⟨rfl, rfl⟩)
        · rw [he] at hkh
          clear he
          have g1 : ¬ 0 < x := by omega
          have g3 : ¬ m < x := by omega
          have g4 : ¬ m ≤ x := by omega
          have g5 : x < m := by omega
          first
            | omega
            | (go_wp2_with fail
               go_meet
               exact ⟨rfl, rfl⟩)
        · rw [he] at hkh
          clear he
          subst h1 h2
          first
            | omega
            | (go_wp2_with fail
               go_meet
               exact ⟨rfl, rfl⟩)
        · rw [he] at hkh
          clear he
          subst h1
          have g3 : ¬ m < 0 := by omega
          first
            | omega
            | (go_wp2_with fail
               go_meet
               exact ⟨rfl, rfl⟩)
        · rw [he] at hkh
          clear he
          have g1 : ¬ x < 0 := by omega
          have g3 : ¬ m < x := by omega
          have g4 : ¬ m ≤ x := by omega
          first
            | omega
            | (go_wp2_with fail
               go_meet
               exact ⟨rfl, rfl⟩)
        · rw [he] at hkh
          clear he
          subst h2
          have g1 : ¬ x < 0 := by omega
          first
            | omega
            | (go_wp2_with fail
               go_meet
               exact ⟨rfl, rfl⟩)
        · rw [he] at hkh
          clear he
          have g1 : ¬ m < 0 := by omega
          have g3 : ¬ x < m := by omega
          have g4 : ¬ x ≤ m := by omega
          first
            | omega
            | (go_wp2_with fail
               go_meet
               exact ⟨rfl, rfl⟩)
        · rw [he] at hkh
          clear he
          subst h1
          have g1 : ¬ x < 0 := by omega
          have g3 : ¬ x ≤ 0 := by omega
          first
            | omega
            | (go_wp2_with fail
               go_meet
               exact ⟨rfl, rfl⟩)
      case' rest => skip
      obtain ⟨rfl, rfl⟩ := hcut
      have HS := Lib.hid (show R3 w.heap.size w u9 (.slice none 0 0) (.slice none 0 0) (srow (lineAt m hN (kindsOf os) 0)) (pairsL m hN (kindsOf os) 0) (codesL m hN (kindsOf os) 0) wr from by
        have := HR.out
        simpa [srow, lineAt, pairsL, codesL] using this)
      have HH2 := Lib.hid (show (0 : Int) ≤ (hN : Int) ∧ (hN : Int) ≤ m by have := HH.out; rw [HHN.out] at this; exact this)
      clear HR hlt HH
      generalize u9 = s0 at *
      go_wp2
      go_loopw [9, 11, 12, 13] (fun v1 v2 v3 i wr => ∃ k : Nat, k ≤ n ∧ i = .int .i64 k ∧ Hid (R3 w.heap.size w v1 v2 v3 (srow (lineAt m hN (kindsOf os) k)) (pairsL m hN (kindsOf os) k) (codesL m hN (kindsOf os) k) wr)) (fun _ _ _ i _ => n - (intOf i).toNat)
      case atStart => exact ⟨0, Nat.zero_le _, rfl, HS⟩
      case round =>
        obtain ⟨k, hk, rfl, HR⟩ := hrel
        clear HS
        by_cases hlt : k < n
        · have hok := lineAt_ok HH2.out.1 HH2.out.2 (kindsOf os) k
          have HNX := Lib.hid (show lineAt m hN (kindsOf os) (k + 1) = lineStep m (lineAt m hN (kindsOf os) k) k (kindsOf os k) from rfl)
          obtain ⟨t, ps, hs⟩ : ∃ t ps, lineAt m hN (kindsOf os) k = (t, ps) := ⟨_, _, rfl⟩
          have t0 : 0 ≤ t := by have := hok.low; rw [hs] at this; exact this
          have hll : ((srow (t, ps)).length : Int) ≤ m := by have := hok.room; rw [hs] at this; rw [srow_len t0]; exact this
          have hsn1 := pairsL_snoc (most := m) (there := hN) (ks := kindsOf os) (n := k)
          have hsn2 := codesL_snoc (most := m) (there := hN) (ks := kindsOf os) (n := k)
          rw [hs] at hsn1 hsn2
          have hr := HR.out
          rw [hs] at hr
          obtain ⟨b, off, rfl, bl, hc⟩ := (HO.out.keep hr.b).2 (by omega)
          have c0 := (hc k hlt).1
          change wr.cell? ⟨b, off + k * 2, none⟩ = some (.int .u8 (kindsOf os k)) at c0
          have i1 : (k : Int) < (n : Int) := by omega
          have HX := Lib.hid hsn1
          have HY := Lib.hid hsn2
          have hxl : (pairsL m hN (kindsOf os) k).length = k := pairsL_length
          have hyl : (codesL m hN (kindsOf os) k).length = k := codesL_length
          rw [hs] at HNX
          have HR2 := Lib.hid hr
          have HXL := Lib.hid hxl
          have HYL := Lib.hid hyl
          clear HR hr hok hs hc bl hsn1 hsn2 hxl hyl
          obtain ⟨s', hs'⟩ : ∃ s', lineAt m hN (kindsOf os) (k + 1) = s' := ⟨_, rfl⟩
          have HS1 := Lib.hid hs'
          have HNX0 := HNX
          clear HNX
          have HNX := Lib.hid (show s' = lineStep m (t, ps) k (kindsOf os k) by rw [← hs']; exact HNX0.out)
          clear hs' HNX0
          generalize hkd : kindsOf os k = kd at *
          clear hkd
          go_upto_block 4 with (fail)
          go_cut [9, 14, 15] from 35 to 88 (fun s p c wx => Hid (R3 w.heap.size w s u11 u12 (srow s') (pairsL m hN (kindsOf os) k) (codesL m hN (kindsOf os) k) wx) ∧ p = .int .i64 (lineP (t, ps) kd) ∧ c = .int .u8 (lineC m (t, ps) kd))
          case first =>
            obtain ⟨L, hL⟩ : ∃ L, (srow (t, ps)).length = L := ⟨_, rfl⟩
            have ho := HR2.out.o1
            rw [hL] at ho hll
            obtain ⟨a1, cp1, rfl⟩ := ownShape ho
            have hL2 : L ≤ 1000 := by omega
            by_cases k1 : kd = 1
            · subst k1
              by_cases hf : (L : Int) < m
              · have HE := Lib.hid (srow_push (k := (k : Int)) (most := m) t0 (by rw [hL]; exact hf))
                have HL := Lib.hid hL
                clear hL
                go_wp2_with (at_builtin; refine wpList_append_later rfl (.tmp 55) (.tmp 57) 34 rfl w.heap.size 3 i0 _ 1 8 Try.underlying34 hi hz0 hz1 hz2 rfl (by decide) _ L _ rfl (ho.alloc _) ⟨wr.heap.size, 0, none⟩ 1 1 [.int .i64 k] rfl rfl (by intro j u hu; cases j <;> simp at hu; subst hu; go_simp) (by intro u hu; simp at hu; subst hu; rfl) (by simp only [maxLen]; omega) (by omega) (Nat.le_trans HR2.out.s (by simp)) ?_; intro v' w1 q g l; have HA := Lib.hid ((HR2.out.alloc _).app1 (by rw [HL.out]; exact q) g l); clear q g l)
                go_meet
                exact ⟨Lib.hid (by rw [HNX.out, HE.out.1]; exact HA.out), by rw [HE.out.2.2], by rw [HE.out.2.1]⟩
              · have HE := Lib.hid (srow_full (k := (k : Int)) (most := m) t0 (by rw [hL]; exact hf))
                have hf2 : m ≤ (L : Int) := by omega
                clear hL hf
                go_wp2_with fail
                go_meet
                exact ⟨Lib.hid (by rw [HNX.out, HE.out.1]; exact HR2.out), by rw [HE.out.2.2], by rw [HE.out.2.1]⟩
            · have k1b : (kd == 1) = false := by simpa using k1
              by_cases k2 : kd = 2
              · subst k2
                clear k1
                rcases List.eq_nil_or_concat (srow (t, ps)) with he | ⟨l, z, he⟩
                · have HE := Lib.hid (srow_none (k := (k : Int)) (most := m) t0 he)
                  obtain rfl : L = 0 := by rw [← hL, he]; rfl
                  have HR3 := Lib.hid (show R3 w.heap.size w _ u11 u12 [] (pairsL m hN (kindsOf os) k) (codesL m hN (kindsOf os) k) wr from by rw [← he]; exact HR2.out)
                  clear hL he
                  go_wp2_with fail
                  go_meet
                  exact ⟨Lib.hid (by rw [HNX.out, HE.out.1]; exact HR3.out), by rw [HE.out.2.2], by rw [HE.out.2.1]⟩
                · rw [List.concat_eq_append] at he
                  have HE := Lib.hid (srow_pop (k := (k : Int)) (most := m) t0 he)
                  obtain ⟨q, hq⟩ : ∃ q, q = l.length := ⟨_, rfl⟩
                  obtain rfl : L = q + 1 := by rw [← hL, he, hq]; simp
                  rcases ho.2 with ⟨_, e⟩ | ⟨g, cap', cur, e, _, hg, hle, _⟩
                  · omega
                  · simp only [Value.slice.injEq, true_and] at e
                    obtain ⟨rfl, rfl⟩ := e
                    have cy := ho.cellAt q (by omega)
                    have hy : ((srow (t, ps)).map (Value.int .i64))[q]? = some (.int .i64 z) := by rw [he, hq]; simp
                    rw [hy] at cy
                    have HR3 := Lib.hid (show R3 w.heap.size w _ u11 u12 (l ++ [z]) (pairsL m hN (kindsOf os) k) (codesL m hN (kindsOf os) k) wr from by rw [← he]; exact HR2.out)
                    have e1 : IntKind.i64.wrap (((q + 1 : Nat) : Int) - 1) = (q : Int) := by rw [IntKind.wrap_i64]; omega
                    have n0 : (((q + 1 : Nat) : Int) == 0) = false := by simp; omega
                    have HQ := Lib.hid hq
                    clear hL he hy hg ho hq
                    go_wp2_with fail
                    go_meet
                    exact ⟨Lib.hid (by rw [HNX.out, HE.out.1]; exact HR3.out.cut HQ.out), by rw [HE.out.2.2], by rw [HE.out.2.1]⟩
              · have HE := Lib.hid (srow_bad (most := m) (t := t) (ps := ps) (k := (k : Int)) k1 k2)
                have k2b : (kd == 2) = false := by simpa using k2
                clear k1 k2 hL
                go_wp2_with fail
                go_meet
                exact ⟨Lib.hid (by rw [HNX.out, HE.out.1]; exact HR2.out), by rw [HE.out.2.2], by rw [HE.out.2.1]⟩
          case' rest => skip
          obtain ⟨HC, rfl, rfl⟩ := hcut
          have o2 := HC.out.o2
          have o3 := HC.out.o3
          rw [HXL.out] at o2
          rw [HYL.out] at o3
          generalize lineP (t, ps) kd = pp at *
          generalize lineC m (t, ps) kd = cq at *
          go_wp2_with (first
            | (at_builtin; refine wpList_append_later rfl (.tmp 89) (.tmp 91) 34 rfl w.heap.size 3 i0 _ 1 8 Try.underlying34 hi hz0 hz1 hz2 rfl (by decide) _ k _ rfl (o2.alloc _) ⟨wc.heap.size, 0, none⟩ 1 1 [.int .i64 pp] rfl rfl (by intro j u hu; cases j <;> simp at hu; subst hu; go_simp) (by intro u hu; simp at hu; subst hu; rfl) (by simp only [maxLen]; omega) (by omega) (Nat.le_trans HC.out.s (by simp)) ?_; intro v' w1 q g l; have HA := Lib.hid ((HC.out.alloc _).app2 (by rw [HXL.out]; exact q) g l); clear q g l o2 o3; have o3 := HA.out.o3; rw [HYL.out] at o3)
            | (at_builtin; refine wpList_append_later rfl (.tmp 93) (.tmp 95) 23 rfl w.heap.size 5 j0 _ 1 1 Try.underlying23 hj hy0 hy1 hy2 rfl (by decide) _ k _ rfl (o3.alloc _) ⟨w1.heap.size, 0, none⟩ 1 1 [.int .u8 cq] rfl rfl (by intro j u hu; cases j <;> simp at hu; subst hu; go_simp) (by intro u hu; simp at hu; subst hu; rfl) (by simp only [maxLen]; omega) (by omega) (Nat.le_trans HA.out.s (by simp)) ?_; intro v2' w2 q g l; have HA2 := Lib.hid ((HA.out.alloc _).app3 (by rw [HYL.out]; exact q) g l); clear q g l o3))
          go_roundw
          case rel => exact ⟨k + 1, by omega, by go_num, Lib.hid (by rw [HX.out, HY.out, HS1.out]; exact HA2.out)⟩
          case measure => simp [intOf]; omega
        · obtain rfl : n = k := by omega
          clear hlt
          have hr := HR.out
          have o2 := hr.o2
          have o3 := hr.o3
          rw [pairsL_length] at o2
          rw [codesL_length] at o3
          obtain ⟨ap, cp, rfl, rp, _, _⟩ := reads_own o2
          obtain ⟨ac, cc, rfl, rc, _, _⟩ := reads_own o3
          have HRP := Lib.hid rp
          have HRC := Lib.hid rc
          have HB := Lib.hid hr.b
          clear hr o2 o3 rp rc HR
          go_wp2
          go_ret2
          rw [HHN.out]
          exact ⟨ap, cp, ac, cc, rfl, HRP.out, HRC.out, HB.out⟩

end Go.Proofs.Ytephmkekgmpnpaa
