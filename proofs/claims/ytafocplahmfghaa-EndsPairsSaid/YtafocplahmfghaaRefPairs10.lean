/-
  What reaperref10.Pairs answers. Conditions: operations that lie in memory, at most a thousand.
-/
import Derived.Test.YtafocplahmfghaaRefPl10
import Derived.Test.YtafocplahmfghaaKnow10
import Derived.Deep.CutBlock
namespace Go.Proofs.Ytafocplahmfghaa
open Go.RowKit

/-- What the document's Pairs leaves. -/
def Ref10 (w : World) (most there : Int) (ks : Nat → Int) (n : Nat) (e : Ending) (w' : World) : Prop :=
  ∃ ap cp ac cc, e = .returned (.tuple #[.slice ap n cp, .slice ac n cc]) ∧ Reads .i64 w' ap n (dpL most (olds there) ks n) ∧ Reads .u8 w' ac n (dcL most (olds there) ks n) ∧ Below w.heap.size w w'

set_option maxRecDepth 100000 in
set_option maxHeartbeats 16000000 in
theorem refPairs10 (w : World) (x most : Int) (ao : Option Addr) (n cap : Nat) (os : List (Int × Int)) (ho : OpsAt w ao n os) (hn : n ≤ 1000) :
    Calls Try.prog 22 #[.int .i64 x, .int .i64 most, .slice ao n cap] w (Ref10 w (mostOf most) (haveOf x (mostOf most)) (kindsOf os) n) := by
  obtain ⟨i0, hi, hz0, hz1, hz2⟩ := info_parts infoI
  obtain ⟨j0, hj, hy0, hy1, hy2⟩ := info_parts infoU8
  have HO := Lib.hid ho
  have HS := Lib.hid (T3.start w)
  clear ho
  go_enter Try.func22, Try.ntmps22
  go_wp2_with (go_at_call 36; refine (refMost _ _).mono ?_; rintro e w' ⟨rfl, rfl⟩)
  have hm := mostOf_in most
  generalize mostOf most = m at *
  obtain ⟨m0, m1⟩ := hm
  have hh := haveOf_in x m m0
  obtain ⟨hN, hhN⟩ : ∃ hN : Nat, haveOf x m = hN := ⟨(haveOf x m).toNat, by omega⟩
  have hN2 : hN ≤ 1000 := by omega
  have HHN := Lib.hid hhN
  have HH := Lib.hid hh
  clear hh hhN
  go_loopw [9, 10] (fun v i wr => ∃ k : Nat, k ≤ hN ∧ i = .int .i64 k ∧ Hid (T3 w.heap.size w v (.slice none 0 0) (.slice none 0 0) (List.replicate k (-1)) [] [] wr)) (fun _ i _ => hN - (intOf i).toNat)
  case atStart => exact ⟨0, Nat.zero_le _, rfl, HS⟩
  case round =>
    obtain ⟨k, hk, rfl, HR⟩ := hrel
    clear HS
    by_cases hlt : k < hN
    · go_upto_region 4 with (fail)
      go_cut [25] from 20 to 25 (fun s wx => s = .bool true ∧ wr = wx)
      case first =>
        have hkh : (k : Int) < haveOf x m := by rw [HHN.out]; omega
        rcases haveOf_cases x m m0 with ⟨⟨h1, h2⟩, he⟩ | ⟨⟨h1, h2⟩, he⟩ | ⟨⟨h1, h2⟩, he⟩ | ⟨⟨h1, h2⟩, he⟩ | ⟨⟨h1, h2⟩, he⟩ | ⟨⟨h1, h2⟩, he⟩ | ⟨⟨h1, h2⟩, he⟩ | ⟨⟨h1, h2⟩, he⟩
        · rw [he] at hkh
          clear he
          subst h2
          have g1 : ¬ 0 < x := by omega
          have g2 : x < 0 := h1
          first
            | omega
            | (go_wp2_with fail
               go_meet
               exact ⟨rfl, rfl⟩)
        · rw [he] at hkh
          clear he
          have g1 : ¬ 0 < x := by omega
          have g3 : ¬ m < x := by omega
          have g4 : ¬ m ≤ x := by omega
          have g5 : x < m := by omega
          first
            | omega
            | (go_wp2_with fail
               go_meet
               exact ⟨rfl, rfl⟩)
        · rw [he] at hkh
          clear he
          subst h1 h2
          first
            | omega
            | (go_wp2_with fail
               go_meet
               exact ⟨rfl, rfl⟩)
        · rw [he] at hkh
          clear he
          subst h1
          have g3 : ¬ m < 0 := by omega
          first
            | omega
            | (go_wp2_with fail
               go_meet
               exact ⟨rfl, rfl⟩)
        · rw [he] at hkh
          clear he
          have g1 : ¬ x < 0 := by omega
          have g3 : ¬ m < x := by omega
          have g4 : ¬ m ≤ x := by omega
          first
            | omega
            | (go_wp2_with fail
               go_meet
               exact ⟨rfl, rfl⟩)
        · rw [he] at hkh
          clear he
          subst h2
          have g1 : ¬ x < 0 := by omega
          first
            | omega
            | (go_wp2_with fail
               go_meet
               exact ⟨rfl, rfl⟩)
        · rw [he] at hkh
          clear he
          have g1 : ¬ m < 0 := by omega
          have g3 : ¬ x < m := by omega
          have g4 : ¬ x ≤ m := by omega
          first
            | omega
            | (go_wp2_with fail
               go_meet
               exact ⟨rfl, rfl⟩)
        · rw [he] at hkh
          clear he
          subst h1
          have g1 : ¬ x < 0 := by omega
          have g3 : ¬ x ≤ 0 := by omega
          first
            | omega
            | (go_wp2_with fail
               go_meet
               exact ⟨rfl, rfl⟩)
      case' rest => skip
      obtain ⟨rfl, rfl⟩ := hcut
      have hl : ((List.replicate k (-1 : Int)).map (Value.int .i64)).length = k := by simp
      go_wp2_with (at_builtin; refine wpList_append_tail _ rfl _ _ 33 rfl 3 i0 _ 8 Try.underlying33 hi hz0 hz1 hz2 rfl _ _ rfl (HR.out.t1.alloc _) _ 1 [.int .i64 (-1)] rfl (Src.ofSlice _ Try.underlying33 ⟨wr.heap.size, 0, none⟩ 1 1 _ rfl (by intro j u hu; cases j <;> simp at hu; subst hu; go_simp) (by intro u hu; simp at hu; subst hu; rfl)) (by rw [hl]; simp only [maxLen]; omega) (by rw [hl]; omega) ?_; intro v' w1 q g l; have HN := Lib.hid ((HR.out.alloc _).app1 (ys := [-1]) q g l); clear q g l)
      go_roundw
      case rel => exact ⟨k + 1, by omega, by go_num, by rw [List.replicate_succ']; exact HN⟩
      case measure => simp [intOf]; omega
    · obtain rfl : hN = k := by omega
      go_upto_region 4 with (fail)
      go_cut [25] from 20 to 25 (fun s wx => s = .bool false ∧ wr = wx)
      case first =>
        have hkh : ¬ (hN : Int) < haveOf x m := by rw [HHN.out]; omega
        rcases haveOf_cases x m m0 with ⟨⟨h1, h2⟩, he⟩ | ⟨⟨h1, h2⟩, he⟩ | ⟨⟨h1, h2⟩, he⟩ | ⟨⟨h1, h2⟩, he⟩ | ⟨⟨h1, h2⟩, he⟩ | ⟨⟨h1, h2⟩, he⟩ | ⟨⟨h1, h2⟩, he⟩ | ⟨⟨h1, h2⟩, he⟩
        · rw [he] at hkh
          clear he
          subst h2
          have g1 : ¬ 0 < x := by omega
          have g2 : x < 0 := h1
          first
            | omega
            | (go_wp2_with fail
               go_meet
               exact ⟨rfl, rfl⟩)
        · rw [he] at hkh
          clear he
          have g1 : ¬ 0 < x := by omega
          have g3 : ¬ m < x := by omega
          have g4 : ¬ m ≤ x := by omega
          have g5 : x < m := by omega
          first
            | omega
            | (go_wp2_with fail
               go_meet
               exact ⟨rfl, rfl⟩)
        · rw [he] at hkh
          clear he
          subst h1 h2
          first
            | omega
            | (go_wp2_with fail
               go_meet
               exact ⟨rfl, rfl⟩)
        · rw [he] at hkh
          clear he
          subst h1
          have g3 : ¬ m < 0 := by omega
          first
            | omega
            | (go_wp2_with fail
               go_meet
               exact ⟨rfl, rfl⟩)
        · rw [he] at hkh
          clear he
          have g1 : ¬ x < 0 := by omega
          have g3 : ¬ m < x := by omega
          have g4 : ¬ m ≤ x := by omega
          first
            | omega
            | (go_wp2_with fail
               go_meet
               exact ⟨rfl, rfl⟩)
        · rw [he] at hkh
          clear he
          subst h2
          have g1 : ¬ x < 0 := by omega
          first
            | omega
            | (go_wp2_with fail
               go_meet
               exact ⟨rfl, rfl⟩)
        · rw [he] at hkh
          clear he
          have g1 : ¬ m < 0 := by omega
          have g3 : ¬ x < m := by omega
          have g4 : ¬ x ≤ m := by omega
          first
            | omega
            | (go_wp2_with fail
               go_meet
               exact ⟨rfl, rfl⟩)
        · rw [he] at hkh
          clear he
          subst h1
          have g1 : ¬ x < 0 := by omega
          have g3 : ¬ x ≤ 0 := by omega
          first
            | omega
            | (go_wp2_with fail
               go_meet
               exact ⟨rfl, rfl⟩)
      case' rest => skip
      obtain ⟨rfl, rfl⟩ := hcut
      have HS := Lib.hid (show T3 w.heap.size w u9 (.slice none 0 0) (.slice none 0 0) (dqAt m (olds hN) (kindsOf os) 0) (dpL m (olds hN) (kindsOf os) 0) (dcL m (olds hN) (kindsOf os) 0) wr from by
        have := HR.out
        simpa [olds, dqAt, dpL, dcL] using this)
      have HH2 := Lib.hid (show (0 : Int) ≤ (hN : Int) ∧ (hN : Int) ≤ m by have := HH.out; rw [HHN.out] at this; exact this)
      clear HR hlt HH
      generalize u9 = s0 at *
      go_wp2
      go_loopw [9, 11, 12, 13] (fun v1 v2 v3 i wr => ∃ k : Nat, k ≤ n ∧ i = .int .i64 k ∧ Hid (T3 w.heap.size w v1 v2 v3 (dqAt m (olds hN) (kindsOf os) k) (dpL m (olds hN) (kindsOf os) k) (dcL m (olds hN) (kindsOf os) k) wr)) (fun _ _ _ i _ => n - (intOf i).toNat)
      case atStart => exact ⟨0, Nat.zero_le _, rfl, HS⟩
      case round =>
        obtain ⟨k, hk, rfl, HR⟩ := hrel
        clear HS
        by_cases hlt : k < n
        · have hll := (dqAt_ok (olds_ok HH2.out.1 HH2.out.2) (kindsOf os) k).room
          have hsn1 := dpL_snoc (most := m) (s0 := olds hN) (ks := kindsOf os) (n := k)
          have hsn2 := dcL_snoc (most := m) (s0 := olds hN) (ks := kindsOf os) (n := k)
          have hs1 : dqAt m (olds hN) (kindsOf os) (k + 1) = dqL m (dqAt m (olds hN) (kindsOf os) k) (kindsOf os k) k := rfl
          obtain ⟨b, off, rfl, bl, hc⟩ := (HO.out.keep HR.out.b).2 (by omega)
          have c0 := (hc k hlt).1
          change wr.cell? ⟨b, off + k * 2, none⟩ = some (.int .u8 (kindsOf os k)) at c0
          have i1 : (k : Int) < (n : Int) := by omega
          have HXL := Lib.hid (show (dpL m (olds hN) (kindsOf os) k).length = k from dpL_length)
          have HYL := Lib.hid (show (dcL m (olds hN) (kindsOf os) k).length = k from dcL_length)
          generalize dqAt m (olds hN) (kindsOf os) k = sl at *
          have HX := Lib.hid hsn1
          have HY := Lib.hid hsn2
          have HS1 := Lib.hid hs1
          clear hc bl hsn1 hsn2 hs1
          generalize hkd : kindsOf os k = kd at *
          clear hkd
          obtain ⟨s', hs'⟩ : ∃ s', dqL m sl kd k = s' := ⟨_, rfl⟩
          obtain ⟨pp, hpp⟩ : ∃ pp, dqP sl kd = pp := ⟨_, rfl⟩
          obtain ⟨cq, hcq⟩ : ∃ cq, dqC m sl kd = cq := ⟨_, rfl⟩
          have HE := Lib.hid (show (dqL m sl kd k = s') ∧ (dqP sl kd = pp) ∧ dqC m sl kd = cq from ⟨hs', hpp, hcq⟩)
          rw [hs'] at HS1
          rw [hpp] at HX
          rw [hcq] at HY
          clear hs' hpp hcq
          go_upto_block 4 with (fail)
          go_cut [9, 14, 15, 17] from 42 to 96 (fun s p c l wx => Hid (T3 w.heap.size w s u11 u12 s' (dpL m (olds hN) (kindsOf os) k) (dcL m (olds hN) (kindsOf os) k) wx) ∧ p = .int .i64 pp ∧ c = .int .u8 cq)
          case first =>
            obtain ⟨L, hL⟩ : ∃ L, sl.length = L := ⟨_, rfl⟩
            rw [hL] at hll
            have hL2 : L ≤ 1000 := by omega
            have HL := Lib.hid hL
            rcases (show kd < 1 ∨ kd = 1 ∨ kd = 2 ∨ kd = 3 ∨ kd = 4 ∨ 4 < kd by omega) with k0 | k1 | k2 | k3 | k4 | k5
            · obtain ⟨e1, e2, e3⟩ := HE.out
              rw [show dqL m sl kd k = sl by unfold dqL; rw [if_neg (by omega), if_neg (by omega), if_neg (by omega), if_neg (by omega)]] at e1
              rw [show dqP sl kd = -1 by unfold dqP; rw [if_neg (by omega), if_neg (by omega)]] at e2
              rw [show dqC m sl kd = 5 by unfold dqC; rw [if_neg (by omega), if_neg (by omega)]] at e3
              subst e1 e2 e3
              clear hL
              go_wp2_with fail
              go_meet
              exact ⟨HR, rfl, rfl⟩
            · subst k1
              by_cases hf : (L : Int) < m
              · have HE2 := HE.out
                rw [show dqL m sl 1 k = (k : Int) :: sl by simp [dqL, hL, hf], show dqP sl 1 = -1 by simp [dqP], show dqC m sl 1 = 1 by simp [dqC, hL, hf]] at HE2
                obtain ⟨rfl, rfl, rfl⟩ := HE2
                have hf2 : ¬ m ≤ (L : Int) := by omega
                obtain ⟨a1, cp1, hv, hcp⟩ := HR.out.t1.shape
                rw [List.length_map, hL] at hv
                subst hv
                clear hL hf HE
                go_wp2_with (at_builtin; refine wpList_append_tail _ rfl (.tmp 74) (.tmp 75) 33 rfl 3 i0 _ 8 Try.underlying33 hi hz0 hz1 hz2 rfl _ _ rfl (lit_tail wr 3 k) _ _ _ rfl (tail_src Try.underlying33 (by rw [List.length_map, HL.out]) (HR.out.t1.alloc _) (ints_one _)) (by rw [List.length_map]; simp only [maxLen, List.length_singleton]; omega) (by rw [List.length_map]; simp only [List.length_singleton]; omega) ?_; intro v' w1 q g l; have HA := Lib.hid ((HR.out.lit (k : Int)).app1 (ys := sl) q g l); clear q g l)
                go_meet
                exact ⟨HA, rfl, rfl⟩
              · have HE2 := HE.out
                rw [show dqL m sl 1 k = sl by simp [dqL, hL, hf], show dqP sl 1 = -1 by simp [dqP], show dqC m sl 1 = 3 by simp [dqC, hL, hf]] at HE2
                obtain ⟨rfl, rfl, rfl⟩ := HE2
                have hf2 : m ≤ (L : Int) := by omega
                obtain ⟨a1, cp1, hv, hcp⟩ := HR.out.t1.shape
                rw [List.length_map, hL] at hv
                subst hv
                clear hL hf HE
                go_wp2_with fail
                go_meet
                exact ⟨HR, rfl, rfl⟩
            · subst k2
              by_cases hf : (L : Int) < m
              · have HE2 := HE.out
                rw [show dqL m sl 2 k = sl ++ [(k : Int)] by simp [dqL, hL, hf], show dqP sl 2 = -1 by simp [dqP], show dqC m sl 2 = 1 by simp [dqC, hL, hf]] at HE2
                obtain ⟨rfl, rfl, rfl⟩ := HE2
                have hf2 : ¬ m ≤ (L : Int) := by omega
                obtain ⟨a1, cp1, hv, hcp⟩ := HR.out.t1.shape
                rw [List.length_map, hL] at hv
                subst hv
                clear hL hf HE
                go_wp2_with (at_builtin; refine wpList_append_tail _ rfl (.tmp 81) (.tmp 83) 33 rfl 3 i0 _ 8 Try.underlying33 hi hz0 hz1 hz2 rfl _ _ rfl (HR.out.t1.alloc _) _ 1 [.int .i64 k] rfl (Src.ofSlice _ Try.underlying33 ⟨wr.heap.size, 0, none⟩ 1 1 _ rfl (by intro j u hu; cases j <;> simp at hu; subst hu; go_simp) (by intro u hu; simp at hu; subst hu; rfl)) (by rw [List.length_map, HL.out]; simp only [maxLen]; omega) (by rw [List.length_map, HL.out]; omega) ?_; intro v' w1 q g l; have HA := Lib.hid ((HR.out.alloc _).app1 (ys := [(k : Int)]) q g l); clear q g l)
                go_meet
                exact ⟨HA, rfl, rfl⟩
              · have HE2 := HE.out
                rw [show dqL m sl 2 k = sl by simp [dqL, hL, hf], show dqP sl 2 = -1 by simp [dqP], show dqC m sl 2 = 3 by simp [dqC, hL, hf]] at HE2
                obtain ⟨rfl, rfl, rfl⟩ := HE2
                have hf2 : m ≤ (L : Int) := by omega
                obtain ⟨a1, cp1, hv, hcp⟩ := HR.out.t1.shape
                rw [List.length_map, hL] at hv
                subst hv
                clear hL hf HE
                go_wp2_with fail
                go_meet
                exact ⟨HR, rfl, rfl⟩
            · subst k3
              by_cases he : sl = []
              · subst he
                have HE2 := HE.out
                rw [show dqL m [] 3 k = [] by simp [dqL], show dqP [] 3 = -1 by simp [dqP], show dqC m [] 3 = 4 by simp [dqC]] at HE2
                obtain ⟨rfl, rfl, rfl⟩ := HE2
                obtain rfl : L = 0 := by rw [← hL]; rfl
                obtain ⟨a1, cp1, hv, hcp⟩ := HR.out.t1.shape
                rw [List.length_map, hL] at hv
                subst hv
                clear hL HE
                go_wp2_with fail
                go_meet
                exact ⟨HR, rfl, rfl⟩
              · obtain ⟨z, l, rfl⟩ : ∃ z l, sl = z :: l := List.exists_cons_of_ne_nil he
                have HE2 := HE.out
                rw [show dqL m (z :: l) 3 k = l by simp [dqL], show dqP (z :: l) 3 = z by simp [dqP], show dqC m (z :: l) 3 = 2 by simp [dqC]] at HE2
                obtain ⟨rfl, rfl, rfl⟩ := HE2
                obtain ⟨q, hq⟩ : ∃ q, q = l.length := ⟨_, rfl⟩
                obtain rfl : L = q + 1 := by rw [← hL, hq]; simp
                obtain ⟨g, og, cg, hv, hcg, cz⟩ := Tail.first (xs := l.map (Value.int .i64)) (by simpa using HR.out.t1)
                rw [List.length_map, ← hq] at hv hcg
                subst hv
                have hT := HR.out.tail hq
                have n0 : (((q + 1 : Nat) : Int) == 0) = false := by simp; omega
                have n1 : (0 : Int) < (q : Int) + 1 := by omega
                have n2 : (1 : Int) ≤ (q : Int) + 1 := by omega
                clear hL he hq HE
                by_cases hc1 : cg = 1
                · subst hc1
                  obtain rfl : q = 0 := by omega
                  rw [if_pos rfl] at hT
                  have HT := Lib.hid hT
                  clear hT
                  go_wp2_with fail
                  go_meet
                  exact ⟨HT, rfl, rfl⟩
                · rw [if_neg hc1] at hT
                  have HT := Lib.hid hT
                  clear hT
                  go_wp2_with fail
                  go_meet
                  exact ⟨HT, rfl, rfl⟩
            · subst k4
              by_cases he : sl = []
              · subst he
                have HE2 := HE.out
                rw [show dqL m [] 4 k = [] by simp [dqL], show dqP [] 4 = -1 by simp [dqP], show dqC m [] 4 = 4 by simp [dqC]] at HE2
                obtain ⟨rfl, rfl, rfl⟩ := HE2
                obtain rfl : L = 0 := by rw [← hL]; rfl
                obtain ⟨a1, cp1, hv, hcp⟩ := HR.out.t1.shape
                rw [List.length_map, hL] at hv
                subst hv
                clear hL HE
                go_wp2_with fail
                go_meet
                exact ⟨HR, rfl, rfl⟩
              · rcases List.eq_nil_or_concat sl with he2 | ⟨l, z, he2⟩
                · exact absurd he2 he
                rw [List.concat_eq_append] at he2
                subst he2
                have HE2 := HE.out
                rw [show dqL m (l ++ [z]) 4 k = l by simp [dqL], show dqP (l ++ [z]) 4 = z by simp [dqP], show dqC m (l ++ [z]) 4 = 2 by simp [dqC]] at HE2
                obtain ⟨rfl, rfl, rfl⟩ := HE2
                obtain ⟨q, hq⟩ : ∃ q, q = l.length := ⟨_, rfl⟩
                obtain rfl : L = q + 1 := by rw [← hL, hq]; simp
                obtain ⟨g, og, cg, hv, hcg, cz, _⟩ := Tail.last (xs := l.map (Value.int .i64)) (x := .int .i64 z) (by simpa using HR.out.t1)
                rw [List.length_map, ← hq] at hv cz hcg
                have hqc : q ≤ cg := by omega
                subst hv
                have HT := Lib.hid (HR.out.front hq)
                have n0 : (((q + 1 : Nat) : Int) == 0) = false := by simp; omega
                have e1 : IntKind.i64.wrap (((q + 1 : Nat) : Int) - 1) = (q : Int) := by rw [IntKind.wrap_i64]; omega
                clear hL he hq HE
                go_wp2_with fail
                go_meet
                exact ⟨HT, rfl, rfl⟩
            · obtain ⟨e1, e2, e3⟩ := HE.out
              rw [show dqL m sl kd k = sl by unfold dqL; rw [if_neg (by omega), if_neg (by omega), if_neg (by omega), if_neg (by omega)]] at e1
              rw [show dqP sl kd = -1 by unfold dqP; rw [if_neg (by omega), if_neg (by omega)]] at e2
              rw [show dqC m sl kd = 5 by unfold dqC; rw [if_neg (by omega), if_neg (by omega)]] at e3
              subst e1 e2 e3
              have k6 : ¬ kd < 1 := by omega
              clear hL
              go_wp2_with fail
              go_meet
              exact ⟨HR, rfl, rfl⟩
          case' rest => skip
          obtain ⟨HC, rfl, rfl⟩ := hcut
          have o2 := HC.out.o2
          have o3 := HC.out.o3
          rw [HXL.out] at o2
          rw [HYL.out] at o3
          clear HE hll
          go_wp2_with (first
            | (at_builtin; refine wpList_append_later rfl (.tmp 97) (.tmp 99) 33 rfl w.heap.size 3 i0 _ 1 8 Try.underlying33 hi hz0 hz1 hz2 rfl (by decide) _ k _ rfl (o2.alloc _) ⟨wc.heap.size, 0, none⟩ 1 1 [.int .i64 pp] rfl rfl (by intro j u hu; cases j <;> simp at hu; subst hu; go_simp) (by intro u hu; simp at hu; subst hu; rfl) (by simp only [maxLen]; omega) (by omega) (Nat.le_trans HC.out.s (by simp)) ?_; intro v' w1 q g l; have HA := Lib.hid ((HC.out.alloc _).app2 (by rw [HXL.out]; exact q) g l); clear q g l o2 o3; have o3 := HA.out.o3; rw [HYL.out] at o3)
            | (at_builtin; refine wpList_append_later rfl (.tmp 101) (.tmp 103) 23 rfl w.heap.size 5 j0 _ 1 1 Try.underlying23 hj hy0 hy1 hy2 rfl (by decide) _ k _ rfl (o3.alloc _) ⟨w1.heap.size, 0, none⟩ 1 1 [.int .u8 cq] rfl rfl (by intro j u hu; cases j <;> simp at hu; subst hu; go_simp) (by intro u hu; simp at hu; subst hu; rfl) (by simp only [maxLen]; omega) (by omega) (Nat.le_trans HA.out.s (by simp)) ?_; intro v2' w2 q g l; have HA2 := Lib.hid ((HA.out.alloc _).app3 (by rw [HYL.out]; exact q) g l); clear q g l o3))
          go_roundw
          case rel => exact ⟨k + 1, by omega, by go_num, Lib.hid (by rw [HX.out, HY.out, HS1.out]; exact HA2.out)⟩
          case measure => simp [intOf]; omega
        · obtain rfl : n = k := by omega
          clear hlt
          have hr := HR.out
          have o2 := hr.o2
          have o3 := hr.o3
          rw [dpL_length] at o2
          rw [dcL_length] at o3
          obtain ⟨ap, cp, rfl, rp, _, _⟩ := reads_own o2
          obtain ⟨ac, cc, rfl, rc, _, _⟩ := reads_own o3
          have HRP := Lib.hid rp
          have HRC := Lib.hid rc
          have HB := Lib.hid hr.b
          clear hr o2 o3 rp rc HR
          go_wp2
          go_ret2
          rw [HHN.out]
          exact ⟨ap, cp, ac, cc, rfl, HRP.out, HRC.out, HB.out⟩

end Go.Proofs.Ytafocplahmfghaa
