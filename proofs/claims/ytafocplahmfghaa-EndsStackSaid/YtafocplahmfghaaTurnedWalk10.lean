/-
  EndsTurned: with all operations at the other end the same ones meet; the walk. Conditions: arguments as they came in.
-/
import Derived.Test.YtafocplahmfghaaQueueWalk10
import Derived.Test.YtafocplahmfghaaTurnPl10
namespace Go.Proofs.Ytafocplahmfghaa
open Go.RowKit

theorem OGr.fresh {w wr w1 : World} {os : List (Int × Int)} {i : Nat} {v : Value} (h : OGr w os i v wr) (hb : Below wr.heap.size wr w1) : OGr w os i v w1 :=
  ⟨own_keep h.1 fun g e => hb.block g (h.1.lt g e).2, h.2.trans (hb.mono h.2.size)⟩

theorem opsL_five (xs : List Int) : ∀ o ∈ opsL 5 xs, 1 ≤ o.1 ∧ o.1 ≤ 5 := by
  intro o ho
  simp only [opsL, List.mem_map] at ho
  obtain ⟨x, _, rfl⟩ := ho
  simp only [opOf]
  omega

set_option maxRecDepth 100000 in
set_option maxHeartbeats 16000000 in
theorem turnedWalk {w : World} (x m : Int) (ac : Option Addr) (lc cc : Nat) (ys : List Int) (x0 : 0 ≤ x) (x1 : x ≤ 255) (m0 : 0 ≤ m) (m1 : m ≤ 255) (hy : ArgBytes w ac lc cc ys) (hlc : lc ≤ 140737488351232) :
    Calls Try.prog 6 #[.int .u8 x, .int .u8 m, .slice ac lc cc] w fun e w' => e = .returned (.bool true) ∧ Below w.heap.size w w' := by
  obtain ⟨i0, hi, hz0, hz1, hz2⟩ := info_parts infoOp
  have C := opsAny w ac lc cc ys 5 hy.1 hy.2.2.2 (by omega) (by omega) (by omega)
  have hl80 := opsL_len 5 ys
  have HK := Lib.hid (opsL_five ys)
  generalize opsL 5 ys = os at *
  clear hy
  go_enter Try.func6, Try.ntmps6
  go_wp2_with fail
  refine C.mono ?_
  clear C
  rintro e W ⟨oo, oc, rfl, o2, _, b2⟩
  obtain ⟨n, hn⟩ : ∃ n, os.length = n := ⟨_, rfl⟩
  rw [hn] at o2 ⊢
  have HN := Lib.hid hn
  have h80 : n ≤ 80 := by rw [← hn]; exact hl80
  have HO := Lib.hid o2
  have HB := Lib.hid b2
  have HS := Lib.hid (OGr.start W (os.map othO))
  clear hn hl80 o2 b2
  go_wp2
  go_loopw [8, 9] (fun v i wr => ∃ j : Nat, j ≤ n ∧ i = .int .i64 j ∧ Hid (OGr W (os.map othO) j v wr)) (fun _ i _ => n - (intOf i).toNat)
  case atStart => exact ⟨0, Nat.zero_le _, rfl, HS⟩
  case round =>
    obtain ⟨j, hj, rfl, HR⟩ := hrel
    clear HS
    by_cases hlt : j < n
    · have i1 : (j : Int) < (n : Int) := by omega
      have hjl : j < os.length := by rw [HN.out]; exact hlt
      obtain ⟨b, off, rfl, bl, hc⟩ := (HO.out.keep HR.out.2).2 (by omega)
      obtain ⟨c1, c2⟩ := hc j hlt
      have hk := HK.out (os.getD j (0, 0)) (by simp [List.getD, hjl])
      have he : (os.map othO).getD j (0, 0) = (turnK (os.getD j (0, 0)).1, (os.getD j (0, 0)).2) := by simp [List.getD, hjl, othO]
      generalize (os.getD j (0, 0)).1 = kd at *
      generalize (os.getD j (0, 0)).2 = vl at *
      obtain ⟨k0, k1⟩ := hk
      have HE := Lib.hid he
      have hML : (os.map othO).length = n := by rw [List.length_map, HN.out]
      have HL := Lib.hid hML
      clear hc hjl he hML
      rcases (show kd = 1 ∨ kd = 2 ∨ kd = 3 ∨ kd = 4 ∨ kd = 5 by omega) with rfl | rfl | rfl | rfl | rfl
      all_goals
        clear k0 k1
      · have HE2 := Lib.hid (show (os.map othO).getD j (0, 0) = (2, vl) by rw [HE.out]; rfl)
        clear HE
        go_upto_region 8 with (fail)
        generalize hV : (wr.alloc (.cells #[.int .u8 2, .int .i32 vl] 42)).alloc _ = V
        have hb : Below wr.heap.size wr V := by rw [← hV]; exact ((Below.refl _ _).alloc (Nat.le_refl _) _).alloc (by simp) _
        have hbx : OBox V wr.heap.size 2 vl := by rw [← hV]; exact (OBox.new wr 2 vl).alloc _
        have HQ := Lib.hid (HR.out.fresh hb)
        have x0 := hbx.c0
        have x1 := hbx.c1
        clear hV hb hbx HR
        go_wp2_with (at_builtin; refine wpList_append_own _ rfl (.tmp 33) (.tmp 35) 22 rfl W.heap.size 42 i0 _ 2 8 Try.underlying22 hi hz0 hz1 hz2 rfl (by decide) _ j _ rfl (HQ.out.1.alloc _) ⟨V.heap.size, 0, none⟩ 1 1 [.int .u8 2, .int .i32 vl] rfl rfl (op_cells V _ _ _) (op_one _ _) (by simp only [maxLen]; omega) (by omega) (Nat.le_trans HQ.out.2.size (by simp)) ?_; intro v' w1 q g _; have HG := Lib.hid (HQ.out.next (os := os.map othO) (by rw [HL.out]; omega) HE2.out q g); clear q g)
        go_roundw
        case rel => exact ⟨j + 1, by omega, by go_num, HG⟩
        case measure => simp [intOf]; omega
      · have HE2 := Lib.hid (show (os.map othO).getD j (0, 0) = (1, vl) by rw [HE.out]; rfl)
        clear HE
        go_upto_region 8 with (fail)
        generalize hV : (wr.alloc (.cells #[.int .u8 1, .int .i32 vl] 42)).alloc _ = V
        have hb : Below wr.heap.size wr V := by rw [← hV]; exact ((Below.refl _ _).alloc (Nat.le_refl _) _).alloc (by simp) _
        have hbx : OBox V wr.heap.size 1 vl := by rw [← hV]; exact (OBox.new wr 1 vl).alloc _
        have HQ := Lib.hid (HR.out.fresh hb)
        have x0 := hbx.c0
        have x1 := hbx.c1
        clear hV hb hbx HR
        go_wp2_with (at_builtin; refine wpList_append_own _ rfl (.tmp 33) (.tmp 35) 22 rfl W.heap.size 42 i0 _ 2 8 Try.underlying22 hi hz0 hz1 hz2 rfl (by decide) _ j _ rfl (HQ.out.1.alloc _) ⟨V.heap.size, 0, none⟩ 1 1 [.int .u8 1, .int .i32 vl] rfl rfl (op_cells V _ _ _) (op_one _ _) (by simp only [maxLen]; omega) (by omega) (Nat.le_trans HQ.out.2.size (by simp)) ?_; intro v' w1 q g _; have HG := Lib.hid (HQ.out.next (os := os.map othO) (by rw [HL.out]; omega) HE2.out q g); clear q g)
        go_roundw
        case rel => exact ⟨j + 1, by omega, by go_num, HG⟩
        case measure => simp [intOf]; omega
      · have HE2 := Lib.hid (show (os.map othO).getD j (0, 0) = (4, vl) by rw [HE.out]; rfl)
        clear HE
        go_upto_region 8 with (fail)
        generalize hV : (wr.alloc (.cells #[.int .u8 4, .int .i32 vl] 42)).alloc _ = V
        have hb : Below wr.heap.size wr V := by rw [← hV]; exact ((Below.refl _ _).alloc (Nat.le_refl _) _).alloc (by simp) _
        have hbx : OBox V wr.heap.size 4 vl := by rw [← hV]; exact (OBox.new wr 4 vl).alloc _
        have HQ := Lib.hid (HR.out.fresh hb)
        have x0 := hbx.c0
        have x1 := hbx.c1
        clear hV hb hbx HR
        go_wp2_with (at_builtin; refine wpList_append_own _ rfl (.tmp 33) (.tmp 35) 22 rfl W.heap.size 42 i0 _ 2 8 Try.underlying22 hi hz0 hz1 hz2 rfl (by decide) _ j _ rfl (HQ.out.1.alloc _) ⟨V.heap.size, 0, none⟩ 1 1 [.int .u8 4, .int .i32 vl] rfl rfl (op_cells V _ _ _) (op_one _ _) (by simp only [maxLen]; omega) (by omega) (Nat.le_trans HQ.out.2.size (by simp)) ?_; intro v' w1 q g _; have HG := Lib.hid (HQ.out.next (os := os.map othO) (by rw [HL.out]; omega) HE2.out q g); clear q g)
        go_roundw
        case rel => exact ⟨j + 1, by omega, by go_num, HG⟩
        case measure => simp [intOf]; omega
      · have HE2 := Lib.hid (show (os.map othO).getD j (0, 0) = (3, vl) by rw [HE.out]; rfl)
        clear HE
        go_upto_region 8 with (fail)
        generalize hV : (wr.alloc (.cells #[.int .u8 3, .int .i32 vl] 42)).alloc _ = V
        have hb : Below wr.heap.size wr V := by rw [← hV]; exact ((Below.refl _ _).alloc (Nat.le_refl _) _).alloc (by simp) _
        have hbx : OBox V wr.heap.size 3 vl := by rw [← hV]; exact (OBox.new wr 3 vl).alloc _
        have HQ := Lib.hid (HR.out.fresh hb)
        have x0 := hbx.c0
        have x1 := hbx.c1
        clear hV hb hbx HR
        go_wp2_with (at_builtin; refine wpList_append_own _ rfl (.tmp 33) (.tmp 35) 22 rfl W.heap.size 42 i0 _ 2 8 Try.underlying22 hi hz0 hz1 hz2 rfl (by decide) _ j _ rfl (HQ.out.1.alloc _) ⟨V.heap.size, 0, none⟩ 1 1 [.int .u8 3, .int .i32 vl] rfl rfl (op_cells V _ _ _) (op_one _ _) (by simp only [maxLen]; omega) (by omega) (Nat.le_trans HQ.out.2.size (by simp)) ?_; intro v' w1 q g _; have HG := Lib.hid (HQ.out.next (os := os.map othO) (by rw [HL.out]; omega) HE2.out q g); clear q g)
        go_roundw
        case rel => exact ⟨j + 1, by omega, by go_num, HG⟩
        case measure => simp [intOf]; omega
      · have HE2 := Lib.hid (show (os.map othO).getD j (0, 0) = (5, vl) by rw [HE.out]; rfl)
        clear HE
        go_upto_region 8 with (fail)
        generalize hV : (wr.alloc (.cells #[.int .u8 5, .int .i32 vl] 42)).alloc _ = V
        have hb : Below wr.heap.size wr V := by rw [← hV]; exact ((Below.refl _ _).alloc (Nat.le_refl _) _).alloc (by simp) _
        have hbx : OBox V wr.heap.size 5 vl := by rw [← hV]; exact (OBox.new wr 5 vl).alloc _
        have HQ := Lib.hid (HR.out.fresh hb)
        have x0 := hbx.c0
        have x1 := hbx.c1
        clear hV hb hbx HR
        go_wp2_with (at_builtin; refine wpList_append_own _ rfl (.tmp 33) (.tmp 35) 22 rfl W.heap.size 42 i0 _ 2 8 Try.underlying22 hi hz0 hz1 hz2 rfl (by decide) _ j _ rfl (HQ.out.1.alloc _) ⟨V.heap.size, 0, none⟩ 1 1 [.int .u8 5, .int .i32 vl] rfl rfl (op_cells V _ _ _) (op_one _ _) (by simp only [maxLen]; omega) (by omega) (Nat.le_trans HQ.out.2.size (by simp)) ?_; intro v' w1 q g _; have HG := Lib.hid (HQ.out.next (os := os.map othO) (by rw [HL.out]; omega) HE2.out q g); clear q g)
        go_roundw
        case rel => exact ⟨j + 1, by omega, by go_num, HG⟩
        case measure => simp [intOf]; omega
    · obtain rfl : n = j := by omega
      clear hlt hj HK
      have hown := HR.out.1
      rw [List.take_of_length_le (by rw [List.length_map, HN.out]; omega)] at hown
      obtain ⟨ao, cap, rfl, ho, _⟩ := opsAt_own hown
      have HP := Lib.hid ho
      have ho2 := HO.out.keep HR.out.2
      have C := pairsAny wr (x % 5) (m % 12) oo n oc os ho2 (by omega)
      have HO2 := Lib.hid ho2
      have HB2 := Lib.hid (HB.out.trans (HR.out.2.mono HB.out.size))
      clear HR hown ho ho2 HB HO
      go_wp2_with fail
      refine C.mono ?_
      clear C
      rintro e w3 ⟨gw, gc, rfl, r1, q1, _, _, _, b3⟩
      have C := pairsAny w3 (x % 5) (m % 12) ao n cap _ (HP.out.keep b3) (by omega)
      have HB3 := Lib.hid (HB2.out.trans (b3.mono HB2.out.size))
      have HR3 := Lib.hid (r1.reads dpL_length)
      have HQ3 := Lib.hid (q1.reads dcL_length)
      clear r1 q1 b3 HB2 HP HO2
      go_wp2_with fail
      refine C.mono ?_
      clear C
      rintro e w4 ⟨gw4, gc4, rfl, r1, q1, _, _, _, b4⟩
      have r2 := r1.reads dpL_length
      have q2 := q1.reads dcL_length
      rw [turn_pairs] at r2
      rw [turn_codes] at q2
      have HR4 := Lib.hid (And.intro (HR3.out.keep b4) r2)
      have HQ4 := Lib.hid (And.intro (HQ3.out.keep b4) q2)
      have HB4 := Lib.hid (HB3.out.trans (b4.mono HB3.out.size))
      clear r1 q1 r2 q2 b4 HB3 HR3 HQ3
      generalize dpL (mostOf (m % 12)) (olds (haveOf (x % 5) (mostOf (m % 12)))) (kindsOf os) n = ps at *
      generalize dcL (mostOf (m % 12)) (olds (haveOf (x % 5) (mostOf (m % 12)))) (kindsOf os) n = cs at *
      go_wp2_with fail
      refine (known _).mono ?_
      rintro e w5 ⟨rfl, b5⟩
      have C := intsEq w5 _ _ n n n _ (HR4.out.1.keep b5) (HR4.out.2.keep b5) (by omega)
      have HQ5 := Lib.hid (And.intro (HQ4.out.1.keep b5) (HQ4.out.2.keep b5))
      have HB5 := Lib.hid (HB4.out.trans (b5.mono HB4.out.size))
      clear b5 HB4 HR4 HQ4
      go_wp2_with fail
      refine C.mono ?_
      clear C
      rintro e w6 ⟨rfl, b6⟩
      have C := codesEq w6 _ _ n n n _ (HQ5.out.1.keep b6) (HQ5.out.2.keep b6) (by omega)
      have HB6 := Lib.hid (HB5.out.trans (b6.mono HB5.out.size))
      clear b6 HB5 HQ5
      go_wp2_with fail
      refine C.mono ?_
      clear C
      rintro e w7 ⟨rfl, b7⟩
      have HB7 := Lib.hid (HB6.out.trans (b7.mono HB6.out.size))
      clear b7 HB6
      go_wp2
      go_ret
      exact ⟨rfl, HB7.out⟩

end Go.Proofs.Ytafocplahmfghaa
