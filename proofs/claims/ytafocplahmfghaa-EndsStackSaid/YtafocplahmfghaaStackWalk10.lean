/-
  EndsStack: at one end alone who meets meets as at a stack; the walk. Conditions: arguments as they came in.
-/
import Derived.Test.YtafocplahmfghaaStackPl10
namespace Go.Proofs.Ytafocplahmfghaa
open Go.RowKit

set_option maxRecDepth 100000 in
set_option maxHeartbeats 16000000 in
theorem stackL {w : World} (x m : Int) (ac : Option Addr) (lc cc : Nat) (ys : List Int) (x0 : 0 ≤ x) (x1 : x ≤ 255) (m0 : 0 ≤ m) (m1 : m ≤ 255) (hy : ArgBytes w ac lc cc ys) (hlc : lc ≤ 140737488351232) :
    Calls Try.prog 7 #[.int .u8 x, .int .u8 m, .slice ac lc cc, .bool false] w fun e w' => e = .returned (.bool true) ∧ Below w.heap.size w w' := by
  obtain ⟨i0, hi, hz0, hz1, hz2⟩ := info_parts infoOp
  have C := opsAny w ac lc cc ys 2 hy.1 hy.2.2.2 (by omega) (by omega) (by omega)
  have hl80 := opsL_len 2 ys
  have HK := Lib.hid (opsL_two ys)
  generalize opsL 2 ys = os at *
  clear hy
  go_enter Try.func7, Try.ntmps7
  go_wp2_with fail
  refine C.mono ?_
  clear C
  rintro e W ⟨oo, oc, rfl, o2, _, b2⟩
  obtain ⟨n, hn⟩ : ∃ n, os.length = n := ⟨_, rfl⟩
  rw [hn] at o2 ⊢
  have HN := Lib.hid hn
  have h80 : n ≤ 80 := by rw [← hn]; exact hl80
  have HO := Lib.hid o2
  have HB := Lib.hid b2
  have HS := Lib.hid (OGr.start W (os.map leftO))
  clear hn hl80 o2 b2
  go_wp2
  go_loopw [10, 11] (fun v i wr => ∃ j : Nat, j ≤ n ∧ i = .int .i64 j ∧ Hid (OGr W (os.map leftO) j v wr)) (fun _ i _ => n - (intOf i).toNat)
  case atStart => exact ⟨0, Nat.zero_le _, rfl, HS⟩
  case round =>
    obtain ⟨j, hj, rfl, HR⟩ := hrel
    clear HS
    by_cases hlt : j < n
    · have i1 : (j : Int) < (n : Int) := by omega
      have hjl : j < os.length := by rw [HN.out]; exact hlt
      obtain ⟨b, off, rfl, bl, hc⟩ := (HO.out.keep HR.out.2).2 (by omega)
      obtain ⟨c1, c2⟩ := hc j hlt
      have hk := HK.out (os.getD j (0, 0)) (by simp [List.getD, hjl])
      have he : (os.map leftO).getD j (0, 0) = leftO (os.getD j (0, 0)) := by simp [List.getD, hjl]
      have HE := Lib.hid (show (os.map leftO).getD j (0, 0) = (leftK (os.getD j (0, 0)).1, (os.getD j (0, 0)).2) from he)
      generalize (os.getD j (0, 0)).1 = kd at *
      generalize (os.getD j (0, 0)).2 = vl at *
      have hML : (os.map leftO).length = n := by rw [List.length_map, HN.out]
      have HL := Lib.hid hML
      clear hc hjl he hML
      rcases hk with rfl | rfl
      · have HE2 := Lib.hid (show (os.map leftO).getD j (0, 0) = (1, vl) by rw [HE.out]; rfl)
        clear HE
        go_wp2
        have z0 : wr.drew.cell? ⟨b, off + j * 2, none⟩ = some (.int .u8 1) := c1
        have z1 : wr.drew.cell? ⟨b, off + j * 2 + 1, none⟩ = some (.int .i32 vl) := c2
        go_region_held3 (fun w' => w'.cell? ⟨b, off + j * 2, none⟩ = some (.int .u8 1) ∧ w'.cell? ⟨b, off + j * 2 + 1, none⟩ = some (.int .i32 vl)) (first | exact ⟨c1, c2⟩ | exact ⟨z0, z1⟩ | (refine ⟨?_, ?_⟩ <;> go_simp)) (fail)
        go_upto_region 9 with (fail)
        try rw [show IntKind.u8.wrap (IntKind.u8.wrap 2 - 1) = 1 by decide]
        try rw [show IntKind.u8.wrap (IntKind.u8.wrap 4 - 1) = 3 by decide]
        generalize hV : (wr.alloc (.cells #[.int .u8 _, .int .i32 vl] 42)).drew = V
        have hb : Below wr.heap.size wr V := by rw [← hV]; exact ((Below.refl _ _).alloc (Nat.le_refl _) _).drew
        have hbx : OBox V wr.heap.size 1 vl := by rw [← hV]; exact OBox.new wr 1 vl
        have HQ := Lib.hid (HR.out.fresh hb)
        clear z0 z1 c1 c2
        have x0 := hbx.c0
        have x1 := hbx.c1
        clear hV hb hbx HR
        go_wp2_with (at_builtin; refine wpList_append_own _ rfl (.tmp 46) (.tmp 48) 22 rfl W.heap.size 42 i0 _ 2 8 Try.underlying22 hi hz0 hz1 hz2 rfl (by decide) _ j _ rfl (HQ.out.1.alloc _) ⟨V.heap.size, 0, none⟩ 1 1 [.int .u8 1, .int .i32 vl] rfl rfl (op_cells V _ _ _) (op_one _ _) (by simp only [maxLen]; omega) (by omega) (Nat.le_trans HQ.out.2.size (by simp)) ?_; intro v' w1 q g _; have HG := Lib.hid (HQ.out.next (os := os.map leftO) (by rw [HL.out]; omega) HE2.out q g); clear q g)
        go_roundw
        case rel => exact ⟨j + 1, by omega, by go_num, HG⟩
        case measure => simp [intOf]; omega
      · have HE2 := Lib.hid (show (os.map leftO).getD j (0, 0) = (3, vl) by rw [HE.out]; rfl)
        clear HE
        go_wp2
        have z0 : wr.drew.cell? ⟨b, off + j * 2, none⟩ = some (.int .u8 2) := c1
        have z1 : wr.drew.cell? ⟨b, off + j * 2 + 1, none⟩ = some (.int .i32 vl) := c2
        go_region_held3 (fun w' => w'.cell? ⟨b, off + j * 2, none⟩ = some (.int .u8 2) ∧ w'.cell? ⟨b, off + j * 2 + 1, none⟩ = some (.int .i32 vl)) (first | exact ⟨c1, c2⟩ | exact ⟨z0, z1⟩ | (refine ⟨?_, ?_⟩ <;> go_simp)) (fail)
        go_upto_region 9 with (fail)
        try rw [show IntKind.u8.wrap (IntKind.u8.wrap 2 - 1) = 1 by decide]
        try rw [show IntKind.u8.wrap (IntKind.u8.wrap 4 - 1) = 3 by decide]
        generalize hV : (wr.alloc (.cells #[.int .u8 _, .int .i32 vl] 42)).drew = V
        have hb : Below wr.heap.size wr V := by rw [← hV]; exact ((Below.refl _ _).alloc (Nat.le_refl _) _).drew
        have hbx : OBox V wr.heap.size 3 vl := by rw [← hV]; exact OBox.new wr 3 vl
        have HQ := Lib.hid (HR.out.fresh hb)
        clear z0 z1 c1 c2
        have x0 := hbx.c0
        have x1 := hbx.c1
        clear hV hb hbx HR
        go_wp2_with (at_builtin; refine wpList_append_own _ rfl (.tmp 46) (.tmp 48) 22 rfl W.heap.size 42 i0 _ 2 8 Try.underlying22 hi hz0 hz1 hz2 rfl (by decide) _ j _ rfl (HQ.out.1.alloc _) ⟨V.heap.size, 0, none⟩ 1 1 [.int .u8 3, .int .i32 vl] rfl rfl (op_cells V _ _ _) (op_one _ _) (by simp only [maxLen]; omega) (by omega) (Nat.le_trans HQ.out.2.size (by simp)) ?_; intro v' w1 q g _; have HG := Lib.hid (HQ.out.next (os := os.map leftO) (by rw [HL.out]; omega) HE2.out q g); clear q g)
        go_roundw
        case rel => exact ⟨j + 1, by omega, by go_num, HG⟩
        case measure => simp [intOf]; omega
    · obtain rfl : n = j := by omega
      clear hlt hj
      have hown := HR.out.1
      rw [List.take_of_length_le (by rw [List.length_map, HN.out]; omega)] at hown
      obtain ⟨ao, cap, rfl, ho, _⟩ := opsAt_own hown
      have C := pairsAny wr (x % 5) (m % 12) ao n cap _ ho (by omega)
      have HP := Lib.hid ho
      have HO2 := Lib.hid (HO.out.keep HR.out.2)
      have HB2 := Lib.hid (HB.out.trans (HR.out.2.mono HB.out.size))
      clear HR hown ho HB HO
      go_wp2_with fail
      refine C.mono ?_
      clear C
      rintro e w3 ⟨gw, gc, rfl, r1, q1, _, _, _, b3⟩
      have C := refPairs w3 (x % 5) (m % 12) oo n oc os (HO2.out.keep b3) (by omega)
      have hm := mostOf_in (m % 12)
      have hh := haveOf_in (x % 5) (mostOf (m % 12)) hm.1
      rw [left_pairs hh.1 hh.2 (kinds_two HK.out)] at r1
      rw [left_codes hh.1 hh.2 (kinds_two HK.out)] at q1
      have HB3 := Lib.hid (HB2.out.trans (b3.mono HB2.out.size))
      have HR3 := Lib.hid (r1.reads pairsL_length)
      have HQ3 := Lib.hid (q1.reads codesL_length)
      have HP3 := Lib.hid (HP.out.keep b3)
      clear r1 q1 b3 HB2 HP HO2 hm hh HK
      go_wp2_with fail
      refine C.mono ?_
      clear C
      rintro e w4 ⟨ap, cp, aq, cq, rfl, r2, q2, b4⟩
      have HR4 := Lib.hid (And.intro (HR3.out.keep b4) r2)
      have HQ4 := Lib.hid (And.intro (HQ3.out.keep b4) q2)
      have HB4 := Lib.hid (HB3.out.trans (b4.mono HB3.out.size))
      have C := applyAny (w := w4) (F := fun _ => False) (sp := none) (most := 0) (zs := []) ⟨rfl, rfl⟩ (fun _ h => h.elim) ao n cap _ (HP3.out.keep b4) (fun _ _ _ h => h) (by omega)
      simp only [ptrO, Option.map_none] at C
      clear r2 q2 b4 HB3 HR3 HQ3 HP3
      generalize pairsL (mostOf (m % 12)) (haveOf (x % 5) (mostOf (m % 12))) (kindsOf os) n = ps at *
      generalize codesL (mostOf (m % 12)) (haveOf (x % 5) (mostOf (m % 12))) (kindsOf os) n = cs at *
      go_wp2_with fail
      refine C.mono ?_
      clear C
      rintro e w5 ⟨gt, F', rfl, r5, _, wr5, _, _, _, _⟩
      have b5 : Below w4.heap.size w4 w5 := wr5.below (Nat.le_refl _) (fun _ h => h.elim)
      have HT := Lib.hid r5
      have HR5 := Lib.hid (And.intro (HR4.out.1.keep b5) (HR4.out.2.keep b5))
      have HQ5 := Lib.hid (And.intro (HQ4.out.1.keep b5) (HQ4.out.2.keep b5))
      have HB5 := Lib.hid (HB4.out.trans (b5.mono HB4.out.size))
      clear r5 wr5 b5 HB4 HR4 HQ4
      go_wp2
      go_loop [18, 19] (fun b i => ∃ k : Nat, k ≤ n ∧ i = .int .i64 k ∧ b = .bool true) (fun _ i => n - (intOf i).toNat)
      case atStart => exact ⟨0, Nat.zero_le _, rfl, rfl⟩
      case round =>
        obtain ⟨k, hk, rfl, rfl⟩ := hrel
        by_cases hlt : k < n
        · obtain ⟨c3, c4⟩ := HT.out.cells (i := k) (by rw [resL_length]; exact hlt)
          rw [resL_getD hlt] at c3 c4
          obtain ⟨t1, t2⟩ := told_none (os.map leftO) k
          simp only at c3 c4
          rw [t2] at c4
          have i1 : (k : Int) < (n : Int) := by omega
          generalize cdA 0 [] (os.map leftO) k = cd at *
          have e1 : decide (3 ≤ cd) = true := decide_eq_true t1
          clear t2
          go_wp2
          go_round
          case rel => exact ⟨k + 1, by omega, by go_num, rfl⟩
          case measure => simp [intOf]; omega
        · obtain rfl : n = k := by omega
          clear hlt HT
          go_wp2_with fail
          refine (known _).mono ?_
          rintro e w6 ⟨rfl, b6⟩
          have C := intsEq w6 _ _ n n cp _ (HR5.out.1.keep b6) (HR5.out.2.keep b6) (by omega)
          have HQ6 := Lib.hid (And.intro (HQ5.out.1.keep b6) (HQ5.out.2.keep b6))
          have HB6 := Lib.hid (HB5.out.trans (b6.mono HB5.out.size))
          clear b6 HB5 HR5 HQ5
          go_wp2_with fail
          refine C.mono ?_
          clear C
          rintro e w7 ⟨rfl, b7⟩
          have C := codesEq w7 _ _ n n cq _ (HQ6.out.1.keep b7) (HQ6.out.2.keep b7) (by omega)
          have HB7 := Lib.hid (HB6.out.trans (b7.mono HB6.out.size))
          clear b7 HB6 HQ6
          go_wp2_with fail
          refine C.mono ?_
          clear C
          rintro e w8 ⟨rfl, b8⟩
          have HB8 := Lib.hid (HB7.out.trans (b8.mono HB7.out.size))
          clear b8 HB7
          go_wp2
          go_ret
          exact ⟨rfl, HB8.out⟩

set_option maxRecDepth 100000 in
set_option maxHeartbeats 16000000 in
theorem stackR {w : World} (x m : Int) (ac : Option Addr) (lc cc : Nat) (ys : List Int) (x0 : 0 ≤ x) (x1 : x ≤ 255) (m0 : 0 ≤ m) (m1 : m ≤ 255) (hy : ArgBytes w ac lc cc ys) (hlc : lc ≤ 140737488351232) :
    Calls Try.prog 7 #[.int .u8 x, .int .u8 m, .slice ac lc cc, .bool true] w fun e w' => e = .returned (.bool true) ∧ Below w.heap.size w w' := by
  obtain ⟨i0, hi, hz0, hz1, hz2⟩ := info_parts infoOp
  have C := opsAny w ac lc cc ys 2 hy.1 hy.2.2.2 (by omega) (by omega) (by omega)
  have hl80 := opsL_len 2 ys
  have HK := Lib.hid (opsL_two ys)
  generalize opsL 2 ys = os at *
  clear hy
  go_enter Try.func7, Try.ntmps7
  go_wp2_with fail
  refine C.mono ?_
  clear C
  rintro e W ⟨oo, oc, rfl, o2, _, b2⟩
  obtain ⟨n, hn⟩ : ∃ n, os.length = n := ⟨_, rfl⟩
  rw [hn] at o2 ⊢
  have HN := Lib.hid hn
  have h80 : n ≤ 80 := by rw [← hn]; exact hl80
  have HO := Lib.hid o2
  have HB := Lib.hid b2
  have HS := Lib.hid (OGr.start W (os.map rightO))
  clear hn hl80 o2 b2
  go_wp2
  go_loopw [10, 11] (fun v i wr => ∃ j : Nat, j ≤ n ∧ i = .int .i64 j ∧ Hid (OGr W (os.map rightO) j v wr)) (fun _ i _ => n - (intOf i).toNat)
  case atStart => exact ⟨0, Nat.zero_le _, rfl, HS⟩
  case round =>
    obtain ⟨j, hj, rfl, HR⟩ := hrel
    clear HS
    by_cases hlt : j < n
    · have i1 : (j : Int) < (n : Int) := by omega
      have hjl : j < os.length := by rw [HN.out]; exact hlt
      obtain ⟨b, off, rfl, bl, hc⟩ := (HO.out.keep HR.out.2).2 (by omega)
      obtain ⟨c1, c2⟩ := hc j hlt
      have hk := HK.out (os.getD j (0, 0)) (by simp [List.getD, hjl])
      have he : (os.map rightO).getD j (0, 0) = rightO (os.getD j (0, 0)) := by simp [List.getD, hjl]
      have HE := Lib.hid (show (os.map rightO).getD j (0, 0) = (rightK (os.getD j (0, 0)).1, (os.getD j (0, 0)).2) from he)
      generalize (os.getD j (0, 0)).1 = kd at *
      generalize (os.getD j (0, 0)).2 = vl at *
      have hML : (os.map rightO).length = n := by rw [List.length_map, HN.out]
      have HL := Lib.hid hML
      clear hc hjl he hML
      rcases hk with rfl | rfl
      · have HE2 := Lib.hid (show (os.map rightO).getD j (0, 0) = (2, vl) by rw [HE.out]; rfl)
        clear HE
        go_wp2
        have z0 : wr.drew.cell? ⟨b, off + j * 2, none⟩ = some (.int .u8 1) := c1
        have z1 : wr.drew.cell? ⟨b, off + j * 2 + 1, none⟩ = some (.int .i32 vl) := c2
        go_region_held3 (fun w' => w'.cell? ⟨b, off + j * 2, none⟩ = some (.int .u8 1) ∧ w'.cell? ⟨b, off + j * 2 + 1, none⟩ = some (.int .i32 vl)) (first | exact ⟨c1, c2⟩ | exact ⟨z0, z1⟩ | (refine ⟨?_, ?_⟩ <;> go_simp)) (fail)
        go_upto_region 9 with (fail)
        try rw [show IntKind.u8.wrap (IntKind.u8.wrap 2 - 1) = 1 by decide]
        try rw [show IntKind.u8.wrap (IntKind.u8.wrap 4 - 1) = 3 by decide]
        generalize hV : (wr.alloc (.cells #[.int .u8 _, .int .i32 vl] 42)).drew = V
        have hb : Below wr.heap.size wr V := by rw [← hV]; exact ((Below.refl _ _).alloc (Nat.le_refl _) _).drew
        have hbx : OBox V wr.heap.size 2 vl := by rw [← hV]; exact OBox.new wr 2 vl
        have HQ := Lib.hid (HR.out.fresh hb)
        clear z0 z1 c1 c2
        have x0 := hbx.c0
        have x1 := hbx.c1
        clear hV hb hbx HR
        go_wp2_with (at_builtin; refine wpList_append_own _ rfl (.tmp 46) (.tmp 48) 22 rfl W.heap.size 42 i0 _ 2 8 Try.underlying22 hi hz0 hz1 hz2 rfl (by decide) _ j _ rfl (HQ.out.1.alloc _) ⟨V.heap.size, 0, none⟩ 1 1 [.int .u8 2, .int .i32 vl] rfl rfl (op_cells V _ _ _) (op_one _ _) (by simp only [maxLen]; omega) (by omega) (Nat.le_trans HQ.out.2.size (by simp)) ?_; intro v' w1 q g _; have HG := Lib.hid (HQ.out.next (os := os.map rightO) (by rw [HL.out]; omega) HE2.out q g); clear q g)
        go_roundw
        case rel => exact ⟨j + 1, by omega, by go_num, HG⟩
        case measure => simp [intOf]; omega
      · have HE2 := Lib.hid (show (os.map rightO).getD j (0, 0) = (4, vl) by rw [HE.out]; rfl)
        clear HE
        go_wp2
        have z0 : wr.drew.cell? ⟨b, off + j * 2, none⟩ = some (.int .u8 2) := c1
        have z1 : wr.drew.cell? ⟨b, off + j * 2 + 1, none⟩ = some (.int .i32 vl) := c2
        go_region_held3 (fun w' => w'.cell? ⟨b, off + j * 2, none⟩ = some (.int .u8 2) ∧ w'.cell? ⟨b, off + j * 2 + 1, none⟩ = some (.int .i32 vl)) (first | exact ⟨c1, c2⟩ | exact ⟨z0, z1⟩ | (refine ⟨?_, ?_⟩ <;> go_simp)) (fail)
        go_upto_region 9 with (fail)
        try rw [show IntKind.u8.wrap (IntKind.u8.wrap 2 - 1) = 1 by decide]
        try rw [show IntKind.u8.wrap (IntKind.u8.wrap 4 - 1) = 3 by decide]
        generalize hV : (wr.alloc (.cells #[.int .u8 _, .int .i32 vl] 42)).drew = V
        have hb : Below wr.heap.size wr V := by rw [← hV]; exact ((Below.refl _ _).alloc (Nat.le_refl _) _).drew
        have hbx : OBox V wr.heap.size 4 vl := by rw [← hV]; exact OBox.new wr 4 vl
        have HQ := Lib.hid (HR.out.fresh hb)
        clear z0 z1 c1 c2
        have x0 := hbx.c0
        have x1 := hbx.c1
        clear hV hb hbx HR
        go_wp2_with (at_builtin; refine wpList_append_own _ rfl (.tmp 46) (.tmp 48) 22 rfl W.heap.size 42 i0 _ 2 8 Try.underlying22 hi hz0 hz1 hz2 rfl (by decide) _ j _ rfl (HQ.out.1.alloc _) ⟨V.heap.size, 0, none⟩ 1 1 [.int .u8 4, .int .i32 vl] rfl rfl (op_cells V _ _ _) (op_one _ _) (by simp only [maxLen]; omega) (by omega) (Nat.le_trans HQ.out.2.size (by simp)) ?_; intro v' w1 q g _; have HG := Lib.hid (HQ.out.next (os := os.map rightO) (by rw [HL.out]; omega) HE2.out q g); clear q g)
        go_roundw
        case rel => exact ⟨j + 1, by omega, by go_num, HG⟩
        case measure => simp [intOf]; omega
    · obtain rfl : n = j := by omega
      clear hlt hj
      have hown := HR.out.1
      rw [List.take_of_length_le (by rw [List.length_map, HN.out]; omega)] at hown
      obtain ⟨ao, cap, rfl, ho, _⟩ := opsAt_own hown
      have C := pairsAny wr (x % 5) (m % 12) ao n cap _ ho (by omega)
      have HP := Lib.hid ho
      have HO2 := Lib.hid (HO.out.keep HR.out.2)
      have HB2 := Lib.hid (HB.out.trans (HR.out.2.mono HB.out.size))
      clear HR hown ho HB HO
      go_wp2_with fail
      refine C.mono ?_
      clear C
      rintro e w3 ⟨gw, gc, rfl, r1, q1, _, _, _, b3⟩
      have C := refPairs w3 (x % 5) (m % 12) oo n oc os (HO2.out.keep b3) (by omega)
      have hm := mostOf_in (m % 12)
      have hh := haveOf_in (x % 5) (mostOf (m % 12)) hm.1
      rw [right_pairs hh.1 hh.2 (kinds_two HK.out)] at r1
      rw [right_codes hh.1 hh.2 (kinds_two HK.out)] at q1
      have HB3 := Lib.hid (HB2.out.trans (b3.mono HB2.out.size))
      have HR3 := Lib.hid (r1.reads pairsL_length)
      have HQ3 := Lib.hid (q1.reads codesL_length)
      have HP3 := Lib.hid (HP.out.keep b3)
      clear r1 q1 b3 HB2 HP HO2 hm hh HK
      go_wp2_with fail
      refine C.mono ?_
      clear C
      rintro e w4 ⟨ap, cp, aq, cq, rfl, r2, q2, b4⟩
      have HR4 := Lib.hid (And.intro (HR3.out.keep b4) r2)
      have HQ4 := Lib.hid (And.intro (HQ3.out.keep b4) q2)
      have HB4 := Lib.hid (HB3.out.trans (b4.mono HB3.out.size))
      have C := applyAny (w := w4) (F := fun _ => False) (sp := none) (most := 0) (zs := []) ⟨rfl, rfl⟩ (fun _ h => h.elim) ao n cap _ (HP3.out.keep b4) (fun _ _ _ h => h) (by omega)
      simp only [ptrO, Option.map_none] at C
      clear r2 q2 b4 HB3 HR3 HQ3 HP3
      generalize pairsL (mostOf (m % 12)) (haveOf (x % 5) (mostOf (m % 12))) (kindsOf os) n = ps at *
      generalize codesL (mostOf (m % 12)) (haveOf (x % 5) (mostOf (m % 12))) (kindsOf os) n = cs at *
      go_wp2_with fail
      refine C.mono ?_
      clear C
      rintro e w5 ⟨gt, F', rfl, r5, _, wr5, _, _, _, _⟩
      have b5 : Below w4.heap.size w4 w5 := wr5.below (Nat.le_refl _) (fun _ h => h.elim)
      have HT := Lib.hid r5
      have HR5 := Lib.hid (And.intro (HR4.out.1.keep b5) (HR4.out.2.keep b5))
      have HQ5 := Lib.hid (And.intro (HQ4.out.1.keep b5) (HQ4.out.2.keep b5))
      have HB5 := Lib.hid (HB4.out.trans (b5.mono HB4.out.size))
      clear r5 wr5 b5 HB4 HR4 HQ4
      go_wp2
      go_loop [18, 19] (fun b i => ∃ k : Nat, k ≤ n ∧ i = .int .i64 k ∧ b = .bool true) (fun _ i => n - (intOf i).toNat)
      case atStart => exact ⟨0, Nat.zero_le _, rfl, rfl⟩
      case round =>
        obtain ⟨k, hk, rfl, rfl⟩ := hrel
        by_cases hlt : k < n
        · obtain ⟨c3, c4⟩ := HT.out.cells (i := k) (by rw [resL_length]; exact hlt)
          rw [resL_getD hlt] at c3 c4
          obtain ⟨t1, t2⟩ := told_none (os.map rightO) k
          simp only at c3 c4
          rw [t2] at c4
          have i1 : (k : Int) < (n : Int) := by omega
          generalize cdA 0 [] (os.map rightO) k = cd at *
          have e1 : decide (3 ≤ cd) = true := decide_eq_true t1
          clear t2
          go_wp2
          go_round
          case rel => exact ⟨k + 1, by omega, by go_num, rfl⟩
          case measure => simp [intOf]; omega
        · obtain rfl : n = k := by omega
          clear hlt HT
          go_wp2_with fail
          refine (known _).mono ?_
          rintro e w6 ⟨rfl, b6⟩
          have C := intsEq w6 _ _ n n cp _ (HR5.out.1.keep b6) (HR5.out.2.keep b6) (by omega)
          have HQ6 := Lib.hid (And.intro (HQ5.out.1.keep b6) (HQ5.out.2.keep b6))
          have HB6 := Lib.hid (HB5.out.trans (b6.mono HB5.out.size))
          clear b6 HB5 HR5 HQ5
          go_wp2_with fail
          refine C.mono ?_
          clear C
          rintro e w7 ⟨rfl, b7⟩
          have C := codesEq w7 _ _ n n cq _ (HQ6.out.1.keep b7) (HQ6.out.2.keep b7) (by omega)
          have HB7 := Lib.hid (HB6.out.trans (b7.mono HB6.out.size))
          clear b7 HB6 HQ6
          go_wp2_with fail
          refine C.mono ?_
          clear C
          rintro e w8 ⟨rfl, b8⟩
          have HB8 := Lib.hid (HB7.out.trans (b8.mono HB7.out.size))
          clear b8 HB7
          go_wp2
          go_ret
          exact ⟨rfl, HB8.out⟩

theorem stackWalk {w : World} (x m : Int) (ac : Option Addr) (lc cc : Nat) (ys : List Int) (r : Bool) (x0 : 0 ≤ x) (x1 : x ≤ 255) (m0 : 0 ≤ m) (m1 : m ≤ 255) (hy : ArgBytes w ac lc cc ys) (hlc : lc ≤ 140737488351232) :
    Calls Try.prog 7 #[.int .u8 x, .int .u8 m, .slice ac lc cc, .bool r] w fun e w' => e = .returned (.bool true) ∧ Below w.heap.size w w' := by
  cases r
  · exact stackL x m ac lc cc ys x0 x1 m0 m1 hy hlc
  · exact stackR x m ac lc cc ys x0 x1 m0 m1 hy hlc

end Go.Proofs.Ytafocplahmfghaa
