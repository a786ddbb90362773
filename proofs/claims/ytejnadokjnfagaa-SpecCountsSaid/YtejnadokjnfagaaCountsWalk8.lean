/-
  The walk of SpecCounts: for all objects, sizes, items, operations and bytes it answers true and leaves all old memory as it was.
-/
import Derived.Test.YtejnadokjnfagaaOpsC8
import Derived.Test.YtejnadokjnfagaaCntPl8
namespace Go.Proofs.Ytejnadokjnfagaa
open Go.RowKit Go.Lib

/-- What a code does to a number of items. -/
def StepC (c A A' : Int) : Prop := (c = 1 ∧ IntKind.i64.wrap (A + 1) = A') ∨ (c = 2 ∧ IntKind.i64.wrap (A - 1) = A') ∨ ((c == 1) = false ∧ (c == 2) = false ∧ A = A')

theorem stepC {l : List (Int × Int)} {n0 k : Nat} (h0 : n0 ≤ 1000) (hl : l.length ≤ 1000) (h : k < l.length) : StepC (l.getD k (0, 0)).1 ((n0 : Int) + sumC (l.take k)) ((n0 : Int) + sumC (l.take (k + 1))) := by
  have b := sumC_in (l.take k)
  rw [List.length_take, Nat.min_eq_left (by omega)] at b
  rw [sumC_succ h]
  generalize (l.getD k (0, 0)).1 = c at *
  generalize sumC (l.take k) = s at *
  unfold StepC cnt
  by_cases c1 : c = 1
  · left
    refine ⟨c1, ?_⟩
    rw [if_pos c1, IntKind.wrap_i64]; omega
  · by_cases c2 : c = 2
    · right; left
      refine ⟨c2, ?_⟩
      rw [if_neg c1, if_pos c2, IntKind.wrap_i64]; omega
    · right; right
      exact ⟨by simpa using c1, by simpa using c2, by rw [if_neg c1, if_neg c2]; omega⟩

set_option maxRecDepth 100000 in
set_option maxHeartbeats 16000000 in
theorem countsSays (w : World) (obj most : Int) (ao ap : Option Addr) (nz capz n cap : Nat) (zs : List Int) (os : List (Int × Int)) (hz : Reads .i32 w ao nz zs) (ho : OpsAt w ap n os) (hnz : nz ≤ 200) (hn : n ≤ 200) :
    Calls Try.prog 13 #[.int .u8 obj, .int .i64 most, .slice ao nz capz, .slice ap n cap] w fun e w' => e = .returned (.bool true) ∧ Below w.heap.size w w' := by
  obtain ⟨i0, hi, hz0, hz1, hz2⟩ := info_parts infoI32
  have HZ := Lib.hid hz
  have HL := Lib.hid hz.1
  have HO := Lib.hid ho
  have HN := Lib.hid ho.1
  clear hz ho
  go_enter Try.func13, Try.ntmps13
  go_upto_region 3 with (at_builtin; refine wpList_append_src _ rfl (.tmp 17) (.tmp 18) 22 rfl w.heap.size 21 i0 _ 1 4 Try.underlying22 hi hz0 hz1 hz2 rfl (by decide) (.slice none 0 0) 0 [] rfl (World.ownsRow_nil _ _ _ _) ao nz capz (zs.map (Value.int .i32)) rfl (by simp [HL.out]) (reads_src HZ.out) (ints_oneCell _ _) (by simp only [maxLen]; omega) (by omega) (Nat.le_refl _) ?_; intro v1 w1 q1 g1; rw [Nat.zero_add, List.nil_append] at q1; have HB1 := Lib.hid (show Below w.heap.size w w1 from (Below.refl _ _).grown g1 (Nat.le_refl _) (fun k e => by cases e)); obtain ⟨a1, cp1, rfl, rd1, _⟩ := reads_own q1; have HR1 := Lib.hid rd1; clear q1 g1 rd1)
  have HC := Lib.hid (runAny w1 obj most a1 ap nz cp1 n cap zs os HR1.out (HO.out.keep HB1.out) (by omega) (by omega))
  go_wp2_with fail
  refine HC.out.mono ?_
  rintro e w2 ⟨v2, b2, rfl, t2, r2, _, _, bl2⟩
  obtain ⟨a2, c2, rfl, _, _⟩ := tailReads t2
  rw [HN.out]
  have HB2 := Lib.hid (HB1.out.trans (bl2.mono HB1.out.size))
  have HR2 := Lib.hid r2
  have HRo := Lib.hid (HR1.out.keep bl2)
  clear t2 r2 bl2 HC HB1 HR1
  have HC := Lib.hid (batchAny w2 obj most a1 ap nz cp1 n cap zs os HRo.out (HO.out.keep HB2.out) (by omega) (by omega))
  go_wp2_with fail
  refine HC.out.mono ?_
  rintro e w3 ⟨v3, b3, rfl, t3, r3, _, _, bl3⟩
  obtain ⟨a3, c3, rfl, _, _⟩ := tailReads t3
  rw [HN.out]
  have HB3 := Lib.hid (HB2.out.trans (bl3.mono HB2.out.size))
  have HR3 := Lib.hid (And.intro (HR2.out.below bl3) r3)
  have HRo := Lib.hid (HRo.out.keep bl3)
  have HT := Lib.hid (show (runT obj (mostOf most) zs os).length = n by rw [runT_length, HN.out])
  have HP := Lib.hid (show (batT obj (mostOf most) zs os).length = n by rw [batT_length, HN.out])
  have HEn := Lib.hid (And.intro (run_cnt obj (mostOf most) os zs) (bat_len obj (mostOf most) zs os))
  clear t3 r3 bl3 HC HB2 HR2
  generalize runT obj (mostOf most) zs os = T at *
  generalize batT obj (mostOf most) zs os = P at *
  generalize (runZ obj (mostOf most) zs os).length = lz at *
  generalize (batZ obj (mostOf most) zs os).length = lb at *
  have HS := Lib.hid (show Below w3.heap.size w3 w3 from Below.refl _ _)
  go_wp2_with fail
  go_loopw [14, 15, 16] (fun p q i wr => ∃ k : Nat, k ≤ n ∧ i = .int .i64 k ∧ p = .int .i64 ((nz : Int) + sumC (T.take k)) ∧ q = .int .i64 ((nz : Int) + sumC (P.take k)) ∧ Below w3.heap.size w3 wr) (fun _ _ i _ => n - (intOf i).toNat)
  case atStart => exact ⟨0, Nat.zero_le _, rfl, by simp [sumC], by simp [sumC], HS.out⟩
  case round =>
    obtain ⟨k, hk, rfl, rfl, rfl, hb⟩ := hrel
    have HB := Lib.hid hb
    clear HS hb
    by_cases hlt : k < n
    · obtain ⟨c0, _⟩ := (HR3.out.1.below HB.out).cells (i := k) (by rw [HT.out]; exact hlt)
      obtain ⟨c1, _⟩ := (HR3.out.2.below HB.out).cells (i := k) (by rw [HP.out]; exact hlt)
      have s0 := stepC (n0 := nz) (l := T) (k := k) (by omega) (by rw [HT.out]; omega) (by rw [HT.out]; exact hlt)
      have s1 := stepC (n0 := nz) (l := P) (k := k) (by omega) (by rw [HP.out]; omega) (by rw [HP.out]; exact hlt)
      have i1 : (k : Int) < n := by omega
      obtain ⟨A', hA⟩ : ∃ A' : Int, (nz : Int) + sumC (T.take (k + 1)) = A' := ⟨_, rfl⟩
      obtain ⟨B', hB⟩ : ∃ B' : Int, (nz : Int) + sumC (P.take (k + 1)) = B' := ⟨_, rfl⟩
      rw [hA] at s0
      rw [hB] at s1
      have HAB := Lib.hid (And.intro hA hB)
      clear hA hB
      generalize (nz : Int) + sumC (T.take k) = A at *
      generalize (nz : Int) + sumC (P.take k) = B at *
      generalize (T.getD k (0, 0)).1 = t0 at *
      generalize (P.getD k (0, 0)).1 = p0 at *
      rcases s0 with ⟨rfl, h0⟩ | ⟨rfl, h0⟩ | ⟨h0, h0', rfl⟩ <;> rcases s1 with ⟨rfl, h1⟩ | ⟨rfl, h1⟩ | ⟨h1, h1', rfl⟩
      all_goals
        go_wp2
        go_roundw
        case rel => exact ⟨k + 1, by omega, by go_num, by rw [HAB.out.1], by rw [HAB.out.2], HB.out⟩
        case measure => simp [intOf]; omega
    · obtain rfl : k = n := by omega
      have e1 : (nz : Int) + sumC (T.take k) = (lz : Int) := by rw [List.take_of_length_le (by rw [HT.out]; exact Nat.le_refl _), HEn.out.1, HL.out]
      have e2 : (nz : Int) + sumC (P.take k) = (lb : Int) := by rw [List.take_of_length_le (by rw [HP.out]; exact Nat.le_refl _), HEn.out.2, HL.out]
      rw [e1, e2]
      have HBw := Lib.hid (HB3.out.trans (HB.out.mono HB3.out.size))
      have HS := Lib.hid (sameEq wr a1 ao nz cp1 capz zs (HRo.out.keep HB.out) (HZ.out.keep HBw.out) (by omega))
      clear e1 e2 hlt
      go_wp2_with fail
      refine HS.out.mono ?_
      rintro e w5 ⟨rfl, bl5⟩
      have HB5 := Lib.hid (HBw.out.trans (bl5.mono HBw.out.size))
      clear bl5
      go_wp2
      go_ret
      exact ⟨rfl, HB5.out⟩

set_option maxRecDepth 100000 in
set_option maxHeartbeats 8000000 in
theorem countsWalk {w : World} (obj most : Int) (ao : Option Addr) (nz capz : Nat) (zs : List Int) (ap : Option Addr) (n cap : Nat) (os : List (Int × Int)) (kk : Int) (ac : Option Addr) (lc cc : Nat) (xs : List Int) (_ : 0 ≤ obj) (_ : obj ≤ 255) (_ : -9223372036854775808 ≤ most) (_ : most ≤ 9223372036854775807)
    (hz : ArgInt32s w ao nz capz zs) (hnz : nz ≤ 140737488351232) (ho : ArgOps w ap n cap os) (hn : n ≤ 140737488351232) (k0 : 0 ≤ kk) (_ : kk ≤ 255) (hx : ArgBytes w ac lc cc xs) (hlc : lc ≤ 140737488351232) :
    Calls Try.prog 4 #[.int .u8 obj, .int .i64 most, .slice ao nz capz, .slice ap n cap, .int .u8 kk, .slice ac lc cc] w fun e w' => e = .returned (.bool true) ∧ Below w.heap.size w w' := by
  have HZ := Lib.hid hz.1
  have HO := Lib.hid ho.1
  have HX := Lib.hid hx
  clear hz ho hx
  have e1 : IntKind.i64.wrap ((nz : Int) + n) = (nz : Int) + n := by rw [IntKind.wrap_i64]; omega
  have e2 : IntKind.i64.wrap ((nz : Int) + n + lc) = (nz : Int) + n + lc := by rw [IntKind.wrap_i64]; omega
  by_cases h1 : 200 < (nz : Int) + n + lc
  · go_enter Try.func4, Try.ntmps4
    go_wp2_with fail
    refine (known _).mono ?_
    rintro e w1 ⟨rfl, b1⟩
    have HB1 := Lib.hid b1
    clear b1
    go_wp2
    go_ret
    exact ⟨rfl, HB1.out⟩
  · have g1 : nz ≤ 200 := by omega
    have g2 : n ≤ 200 := by omega
    have g3 : lc ≤ 200 := by omega
    obtain ⟨q, hq⟩ : ∃ q : Int, kk % 3 = q := ⟨_, rfl⟩
    obtain ⟨r, hr⟩ : ∃ q : Int, kk % 9 = q := ⟨_, rfl⟩
    have q0 : 0 ≤ q ∧ q < 3 := by omega
    have r0 : 0 ≤ r ∧ r < 9 := by omega
    have c1 : kk.tmod 3 = q := by rw [Int.tmod_eq_emod_of_nonneg k0]; exact hq
    have c2 : IntKind.u8.wrap q = q := by rw [IntKind.wrap_u8]; omega
    have c3 : IntKind.u8.wrap (1 + q) = 1 + q := by rw [IntKind.wrap_u8]; omega
    have d1 : kk.tmod 9 = r := by rw [Int.tmod_eq_emod_of_nonneg k0]; exact hr
    have d2 : IntKind.u8.wrap r = r := by rw [IntKind.wrap_u8]; omega
    have d3 : IntKind.i64.wrap r = r := by rw [IntKind.wrap_i64]; omega
    clear hq hr q0 r0
    go_enter Try.func4, Try.ntmps4
    go_wp2_with fail
    refine (known _).mono ?_
    rintro e w1 ⟨rfl, b1⟩
    have HB1 := Lib.hid b1
    clear b1
    have C := Lib.hid (countsSays w1 obj most ao ap nz capz n cap zs os (HZ.out.keep HB1.out) (HO.out.keep HB1.out) g1 g2)
    go_wp2_with fail
    refine C.out.mono ?_
    rintro e w2 ⟨rfl, b2⟩
    have HB2 := Lib.hid (HB1.out.trans (b2.mono HB1.out.size))
    clear b2 HB1 C
    have C := Lib.hid (opsAny w2 ac lc cc xs 4 (HX.out.1.keep HB2.out) HX.out.2.2.2 (by omega) (by omega) (by omega))
    go_wp2_with fail
    refine C.out.mono ?_
    rintro e w3 ⟨oo, oc, rfl, o3, _, b3⟩
    have hol := opsL_len 4 xs
    have HB3 := Lib.hid (HB2.out.trans (b3.mono HB2.out.size))
    have HO3 := Lib.hid o3
    clear b3 HB2 o3 C
    generalize opsL 4 xs = os3 at *
    generalize hn3 : os3.length = n3 at *
    clear hn3
    have C := Lib.hid (countsSays w3 (1 + q) r none oo 0 0 n3 oc [] os3 (ints_none _ _) HO3.out (by omega) (by omega))
    go_wp2_with fail
    refine C.out.mono ?_
    rintro e w4 ⟨rfl, b4⟩
    have HB4 := Lib.hid (HB3.out.trans (b4.mono HB3.out.size))
    clear b4 HB3 C
    go_wp2
    go_ret
    exact ⟨rfl, HB4.out⟩

end Go.Proofs.Ytejnadokjnfagaa
