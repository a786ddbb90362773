/-
  The function SortedLeast returns true: what is taken is the least of all, one behind the other; what finds no room are the greatest. Conditions: a list of bytes as it came in.
-/
import Derived.Test.YtmkpmnmllgdppaaLeastPl11m
namespace Go.Proofs.Ytmkpmnmllgdppaa
open Go.RowKit Go.Lib

theorem opsL_two (xs : List Int) (h : ∀ x ∈ xs, 0 ≤ x ∧ x ≤ 255) : Two2 (opsL 2 xs) := by
  intro o ho
  simp only [opsL, List.mem_map] at ho
  obtain ⟨x, hx, rfl⟩ := ho
  have hb := h x (List.mem_of_mem_take hx)
  simp only [opOf]
  omega

set_option maxRecDepth 100000 in
set_option maxHeartbeats 32000000 in
theorem leastWalk {w : World} (x : Int) (al : Option Addr) (nl cl : Nat) (xs : List Int) (x0 : 0 ≤ x) (x1 : x ≤ 255) (hx : ArgBytes w al nl cl xs) (hnl : nl ≤ 140737488351232) :
    Calls Try.prog 5 #[.int .u8 x, .slice al nl cl] w fun e w' => e = .returned (.bool true) ∧ Below w.heap.size w w' := by
  obtain ⟨m, hm⟩ : ∃ m, x % 12 = m := ⟨_, rfl⟩
  have hm0 : 0 ≤ m ∧ m ≤ 11 := by omega
  have hmo := mostOf_self m hm0.1 (by omega)
  have hmt : x.tmod 12 = m := by rw [Int.tmod_eq_emod_of_nonneg x0]; exact hm
  clear hm
  have hok := opsL_ok 2 xs hx.2.2.2 (by omega) (by omega)
  have ht2 := opsL_two xs hx.2.2.2
  have hln := opsL_len 2 xs
  have C := opsAny w al nl cl xs 2 hx.1 hx.2.2.2 (by omega) (by omega) (by omega)
  clear hx
  generalize opsL 2 xs = os at *
  obtain ⟨n, hn⟩ : ∃ n, os.length = n := ⟨_, rfl⟩
  have HLO := Lib.hid hn
  have hn80 : n ≤ 80 := by omega
  have HOK := Lib.hid hok
  have HT2 := Lib.hid ht2
  have HM := Lib.hid hm0.1
  clear hok ht2 hln
  go_enter Try.func5, Try.ntmps5
  go_wp2_with fail
  refine C.mono ?_
  clear C
  rintro e w1 ⟨ao, cap, rfl, o1, _, b1⟩
  rw [hn] at o1 ⊢
  clear hn
  have HB1 := Lib.hid b1
  have HO1 := Lib.hid o1
  clear b1 o1
  go_wp2_with fail
  refine (newS _ w1).mono ?_
  rintro e w2 ⟨rfl, s1, bl1⟩
  rw [hmo] at s1
  go_wp2_with fail
  refine (newC w2).mono ?_
  rintro e w2' ⟨rfl, c2, bl2⟩
  have P2 := PrAt.start s1 bl1 c2 bl2
  have hoff := P2.old (ao := ao) (n := n) (fun hp y hy => .inl (opsOld HO1.out hp y hy))
  have C := applyAny P2.sk P2.co P2.ap ao n cap os (HO1.out.keep P2.b) hoff.1 hoff.2 (by omega)
  have HP2 := Lib.hid P2
  clear P2 s1 c2 bl1 bl2 hoff
  go_wp2_with fail
  refine C.mono ?_
  clear C
  rintro e w3 hp
  obtain ⟨g, F3, G3, rfl, rg, _, P3, _⟩ := HP2.out.post hp
  rw [HLO.out]
  rw [show batT 3 m (vals ([] : List It)) os = batT 3 m [] os from rfl] at rg
  have HT := Lib.hid rg
  have HO := Lib.hid (HO1.out.keep P3.b)
  have HP := Lib.hid P3
  have HBE := Lib.hid (Below.refl w3.heap.size w3)
  have HS := Lib.hid (show (-2147483648 : Int) = lastG (batT 3 m [] os) 0 from rfl)
  clear hp rg P3 HP2
  go_wp2_with fail
  go_loopw [8, 9] (fun last k wr => ∃ i : Nat, i ≤ n ∧ k = .int .i64 i ∧ last = .int .i32 (lastG (batT 3 m [] os) i) ∧ Below w3.heap.size w3 wr) (fun _ k _ => n - (intOf k).toNat)
  case atStart => exact ⟨0, Nat.zero_le _, rfl, rfl, HBE.out⟩
  case round =>
    obtain ⟨k, hk, rfl, rfl, hbe⟩ := hrel
    clear HS HBE
    have HBE := Lib.hid hbe
    by_cases hlt : k < n
    · have hl2 : (batT 3 m [] os).length = n := by rw [batT_length]; exact HLO.out
      obtain ⟨c0, c1⟩ := (HT.out.below hbe).cells (i := k) (by omega)
      have i1 : (k : Int) < n := by omega
      have HUP := Lib.hid (fun h => least_up HM.out HT2.out HOK.out (show k < os.length by rw [HLO.out]; exact hlt) h)
      have hsu : lastG (batT 3 m [] os) (k + 1) = if ((batT 3 m [] os).getD k (0, 0)).1 = 2 then ((batT 3 m [] os).getD k (0, 0)).2 else lastG (batT 3 m [] os) k := rfl
      obtain ⟨tc, htc⟩ : ∃ x, ((batT 3 m [] os).getD k (0, 0)).1 = x := ⟨_, rfl⟩
      obtain ⟨tv, htv⟩ : ∃ x, ((batT 3 m [] os).getD k (0, 0)).2 = x := ⟨_, rfl⟩
      rw [htc, htv] at hsu HUP
      rw [htc] at c0
      rw [htv] at c1
      have HTC := Lib.hid htc
      clear hl2 hbe htv
      by_cases hk2 : tc = 2
      · subst hk2
        rw [if_pos rfl] at hsu
        have HLG := Lib.hid (show (.int .i32 tv : Value) = .int .i32 (lastG (batT 3 m [] os) (k + 1)) by rw [hsu])
        have hup : ¬ tv < lastG (batT 3 m [] os) k := by have := HUP.out rfl; omega
        clear hsu HUP htc
        generalize lastG (batT 3 m [] os) k = lg at *
        go_wp2_with fail
        generalize wr = wo at *
        go_loopw [10] (fun j wr => ∃ q : Nat, q ≤ n ∧ j = .int .i64 q ∧ Below w3.heap.size w3 wr) (fun j _ => n - (intOf j).toNat)
        case atStart => exact ⟨0, Nat.zero_le _, rfl, HBE.out⟩
        case round =>
          obtain ⟨q, hq, rfl, hb⟩ := hrel
          by_cases hlt2 : q < n
          · have HB2 := Lib.hid hb
            have hl2 : (batT 3 m [] os).length = n := by rw [batT_length]; exact HLO.out
            obtain ⟨c0, c1⟩ := (HT.out.below hb).cells (i := k) (by omega)
            obtain ⟨d0, d1⟩ := (HT.out.below hb).cells (i := q) (by omega)
            obtain ⟨bo, off, rfl, bl, hc⟩ := (HO.out.keep hb).2 (by omega)
            obtain ⟨y0, y1⟩ := hc k hlt
            obtain ⟨v0, v1⟩ := hc q hlt2
            rw [HTC.out] at c0
            have j1 : (q : Int) < n := by omega
            have HFU := Lib.hid (fun h1 h3 => least_full HM.out HT2.out (show k < os.length by rw [HLO.out]; exact hlt) (show q < os.length by rw [HLO.out]; exact hlt2) h1 h3)
            clear hb hc y0 v0 hl2
            obtain ⟨tq, htq⟩ : ∃ x, ((batT 3 m [] os).getD q (0, 0)).1 = x := ⟨_, rfl⟩
            rw [htq] at d0 HFU
            generalize (os.getD k (0, 0)).2 = ok at *
            generalize (os.getD q (0, 0)).2 = oq at *
            clear htq c1 d1
            have g1 : ((2 : Int) == 1) = false := by decide
            clear HFU
            go_wp2
            go_quiet (fail)
            go_wp2
            go_roundw
            case rel => exact ⟨q + 1, by omega, by go_num, below_drewN HB2.out _⟩
            case measure => simp [intOf]; omega
          · obtain rfl : q = n := by omega
            clear hlt2
            go_wp2
            go_roundw
            case rel => exact ⟨k + 1, by omega, by go_num, HLG.out, hb⟩
            case measure => simp [intOf]; omega
      · rw [if_neg hk2] at hsu
        have HLG := Lib.hid (show (.int .i32 (lastG (batT 3 m [] os) k) : Value) = .int .i32 (lastG (batT 3 m [] os) (k + 1)) by rw [hsu])
        have g0 : (tc == 2) = false := by simpa using hk2
        clear hsu HUP htc
        by_cases hk1 : tc = 1
        · subst hk1
          generalize lastG (batT 3 m [] os) k = lg at *
          go_wp2_with fail
          generalize wr = wo at *
          go_loopw [10] (fun j wr => ∃ q : Nat, q ≤ n ∧ j = .int .i64 q ∧ Below w3.heap.size w3 wr) (fun j _ => n - (intOf j).toNat)
          case atStart => exact ⟨0, Nat.zero_le _, rfl, HBE.out⟩
          case round =>
            obtain ⟨q, hq, rfl, hb⟩ := hrel
            by_cases hlt2 : q < n
            · have HB2 := Lib.hid hb
              have hl2 : (batT 3 m [] os).length = n := by rw [batT_length]; exact HLO.out
              obtain ⟨c0, c1⟩ := (HT.out.below hb).cells (i := k) (by omega)
              obtain ⟨d0, d1⟩ := (HT.out.below hb).cells (i := q) (by omega)
              obtain ⟨bo, off, rfl, bl, hc⟩ := (HO.out.keep hb).2 (by omega)
              obtain ⟨y0, y1⟩ := hc k hlt
              obtain ⟨v0, v1⟩ := hc q hlt2
              rw [HTC.out] at c0
              have j1 : (q : Int) < n := by omega
              have HFU := Lib.hid (fun h1 h3 => least_full HM.out HT2.out (show k < os.length by rw [HLO.out]; exact hlt) (show q < os.length by rw [HLO.out]; exact hlt2) h1 h3)
              clear hb hc y0 v0 hl2
              obtain ⟨tq, htq⟩ : ∃ x, ((batT 3 m [] os).getD q (0, 0)).1 = x := ⟨_, rfl⟩
              rw [htq] at d0 HFU
              generalize (os.getD k (0, 0)).2 = ok at *
              generalize (os.getD q (0, 0)).2 = oq at *
              clear htq c1 d1
              by_cases h3 : tq = 3
              · have hv := HFU.out HTC.out h3
                subst h3
                have g2 : decide (oq < ok) = false := by simpa using hv
                clear HFU hv
                go_wp2
                go_quiet (fail)
                go_wp2
                go_roundw
                case rel => exact ⟨q + 1, by omega, by go_num, below_drewN HB2.out _⟩
                case measure => simp [intOf]; omega
              · have g2 : (tq == 3) = false := by simpa using h3
                clear HFU
                go_wp2
                go_quiet (fail)
                go_wp2
                go_roundw
                case rel => exact ⟨q + 1, by omega, by go_num, below_drewN HB2.out _⟩
                case measure => simp [intOf]; omega
            · obtain rfl : q = n := by omega
              clear hlt2
              go_wp2
              go_roundw
              case rel => exact ⟨k + 1, by omega, by go_num, HLG.out, hb⟩
              case measure => simp [intOf]; omega
        · generalize lastG (batT 3 m [] os) k = lg at *
          go_wp2_with fail
          generalize wr = wo at *
          go_loopw [10] (fun j wr => ∃ q : Nat, q ≤ n ∧ j = .int .i64 q ∧ Below w3.heap.size w3 wr) (fun j _ => n - (intOf j).toNat)
          case atStart => exact ⟨0, Nat.zero_le _, rfl, HBE.out⟩
          case round =>
            obtain ⟨q, hq, rfl, hb⟩ := hrel
            by_cases hlt2 : q < n
            · have HB2 := Lib.hid hb
              have hl2 : (batT 3 m [] os).length = n := by rw [batT_length]; exact HLO.out
              obtain ⟨c0, c1⟩ := (HT.out.below hb).cells (i := k) (by omega)
              obtain ⟨d0, d1⟩ := (HT.out.below hb).cells (i := q) (by omega)
              obtain ⟨bo, off, rfl, bl, hc⟩ := (HO.out.keep hb).2 (by omega)
              obtain ⟨y0, y1⟩ := hc k hlt
              obtain ⟨v0, v1⟩ := hc q hlt2
              rw [HTC.out] at c0
              have j1 : (q : Int) < n := by omega
              have HFU := Lib.hid (fun h1 h3 => least_full HM.out HT2.out (show k < os.length by rw [HLO.out]; exact hlt) (show q < os.length by rw [HLO.out]; exact hlt2) h1 h3)
              clear hb hc y0 v0 hl2
              obtain ⟨tq, htq⟩ : ∃ x, ((batT 3 m [] os).getD q (0, 0)).1 = x := ⟨_, rfl⟩
              rw [htq] at d0 HFU
              generalize (os.getD k (0, 0)).2 = ok at *
              generalize (os.getD q (0, 0)).2 = oq at *
              clear htq c1 d1
              have g1 : (tc == 1) = false := by simpa using hk1
              clear HFU
              go_wp2
              go_quiet (fail)
              go_wp2
              go_roundw
              case rel => exact ⟨q + 1, by omega, by go_num, below_drewN HB2.out _⟩
              case measure => simp [intOf]; omega
            · obtain rfl : q = n := by omega
              clear hlt2
              go_wp2
              go_roundw
              case rel => exact ⟨k + 1, by omega, by go_num, HLG.out, hb⟩
              case measure => simp [intOf]; omega
    · obtain rfl : k = n := by omega
      clear hlt
      have HBF := Lib.hid (show Below w.heap.size w wr from HB1.out.trans ((HP.out.b.trans (hbe.mono HP.out.b.size)).mono HB1.out.size))
      have PF := HP.out.fresh hbe
      have C := itemsR PF.sk.2
      have hlr := PF.sk.room
      rw [show (batS m (([] : List It), ([] : List Bool)) os).1.map It.v = batZ 3 m [] os from batS_vals m ([], []) os] at C
      have hend := fun h => least_end HM.out HT2.out HOK.out (m := m) (os := os) h
      rw [HLO.out] at hend
      have HE := Lib.hid hend
      have HZL := Lib.hid (show (batZ 3 m [] os).length ≤ 1000 from by
        have := batS_vals m (([] : List It), ([] : List Bool)) os
        have h2 := congrArg List.length this
        rw [vals_length] at h2
        have h3 : (batZ 3 m (vals ([] : List It)) os).length = (batZ 3 m [] os).length := rfl
        rw [h3] at h2
        omega)
      clear PF hlr hend hbe
      generalize lastG (batT 3 m [] os) k = lg at *
      generalize batZ 3 m [] os = Z at *
      go_wp2_with fail
      refine C.mono ?_
      clear C
      rintro e w5 ⟨ao5, cap5, rfl, r5, hc5, _, b5⟩
      have HB5 := Lib.hid (HBF.out.trans (b5.mono HBF.out.size))
      have HR5 := Lib.hid r5
      clear b5 r5
      go_wp2_with fail
      refine (known w5).mono ?_
      rintro e w6 ⟨rfl, b6⟩
      have HB6 := Lib.hid (HB5.out.trans (b6.mono HB5.out.size))
      have r6 := HR5.out.keep b6
      clear b6
      cases Z with
      | nil =>
        clear r6
        go_wp2
        go_ret
        exact ⟨rfl, HB6.out⟩
      | cons z Z =>
        have hle : ¬ z < lg := by have := HE.out (by simp); simp at this; omega
        have hle2 : lg ≤ z := by omega
        obtain ⟨b, off, rfl, bl, hc⟩ := r6.2 (by simp)
        have c := hc 0 (by simp)
        rw [show (z :: Z).getD 0 0 = z from rfl, Nat.add_zero] at c
        simp only [List.length_cons] at *
        have q0 : ¬ ((Z.length : Int) + 1 = 0) := by omega
        have q1 : ((Z.length : Int) + 1 == 0) = false := by simp; omega
        clear r6 hc
        generalize Z.length = L at *
        go_wp2
        go_ret
        exact ⟨rfl, HB6.out⟩

end Go.Proofs.Ytmkpmnmllgdppaa
