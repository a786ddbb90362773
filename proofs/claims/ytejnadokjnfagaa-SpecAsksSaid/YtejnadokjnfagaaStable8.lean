/-
  slices.SortStableFunc sorts a row of ints that rises, by keys, and keeps the order of those of one key. Conditions: a row of one's own; a comparison as CmpAt says.
-/
import Derived.Test.YtejnadokjnfagaaStab8
namespace Go.Proofs.Ytejnadokjnfagaa
open Go.RowKit

def SortedRow (w : World) (g n cap : Nat) (key : Int → Int) (z : List Int) (e : Ending) (w' : World) : Prop :=
  e = .returned (.tuple #[]) ∧ ∃ M : List Int, M.Perm z ∧ Srt key M ∧ IRow w' g n cap M ∧ Wrote (At1 g) w w'

theorem Rises.sub {N : Int} {X Y : List Int} (h : Rises N X) (s : Y.Sublist X) : Rises N Y := ⟨List.Pairwise.sublist s h.up, fun x hx => h.ok x (s.subset hx)⟩

set_option maxRecDepth 100000 in
set_option maxHeartbeats 16000000 in
theorem stableAny (w : World) {g n cap : Nat} {key : Int → Int} {N : Int} {B : Nat} (z : List Int) (h : IRow w g n cap z) (hC : CmpAt key N B g w) (hz : Rises N z) (hn : n ≤ 1000000) :
    Calls Try.prog 41 #[.slice (some ⟨g, 0, none⟩) n cap, .int .i64 n, .func (.func 31) #[] #[.pointer (some ⟨B, 0, none⟩)]] w (SortedRow w g n cap key z) := by
  have hl := h.len
  have HC := Lib.hid hC
  have HZ := Lib.hid hz
  have HL := Lib.hid hl
  have HS := Lib.hid h
  clear h hC hz hl
  go_enter Try.func41, Try.ntmps41
  go_wp2_with (fail)
  go_loopw [7, 8] (fun a b wr => ∃ (az bz : Int) (k : Nat) (d : List Int), a = .int .i64 az ∧ b = .int .i64 bz ∧ az = 20 * k ∧ bz = 20 * k + 20 ∧ 20 * k ≤ n ∧ Stab1 key z d k ∧ IRow wr g n cap d ∧ Wrote (At1 g) w wr) (fun a _ _ => n + 1 - (intOf a).toNat)
  case atStart => exact ⟨0, 20, 0, z, rfl, rfl, rfl, rfl, Nat.zero_le _, stab1_start _ _, HS.out, Wrote.refl _ _⟩
  case round =>
    obtain ⟨az, bz, k, d, rfl, rfl, haz, hbz, hkn, hd, hr, hw⟩ := hrel
    clear HS
    by_cases hlt : 20 * k + 20 ≤ n
    · have hdl : d.length = n := hr.len
      have e : d = d.take (20 * k) ++ (d.drop (20 * k)).take 20 ++ d.drop (20 * k + 20) := by
        rw [List.append_assoc, ← List.drop_drop, List.take_append_drop, List.take_append_drop]
      have C := insSort wr g n cap key N B (d.take (20 * k)) ((d.drop (20 * k)).take 20) (d.drop (20 * k + 20)) az bz (by rw [← e]; exact hr) (HC.out.later hw) (by rw [hd.2.2]; exact HZ.out.sub ((List.take_sublist _ _).trans (List.drop_sublist _ _))) (by simp; omega) (by simp; omega) hn
      have HCC := Lib.hid C
      have HK := Lib.hid (And.intro haz (And.intro hbz hd))
      have HW := Lib.hid hw
      have z1 : bz ≤ n := by omega
      have z0 : 0 ≤ bz := by omega
      have z2 : 0 ≤ az := by omega
      clear C haz hbz hd hr hw e hdl
      go_wp2_with (fail)
      refine HCC.out.mono ?_
      rintro e w2 ⟨rfl, M, p, s, r, h2⟩
      have HR := Lib.hid (And.intro (stab1_next HK.out.2.2 (by rw [HL.out]; exact hlt) p s) (And.intro r (HW.out.trans h2)))
      clear p s r h2 HCC HW
      go_wp2
      go_roundw
      case rel => exact ⟨bz, bz + 20, k + 1, _, rfl, by go_num, by have := HK.out; omega, by have := HK.out; omega, by omega, HR.out.1, HR.out.2.1, HR.out.2.2⟩
      case measure => have := HK.out; simp [intOf]; omega
    · have hdl : d.length = n := hr.len
      have e : d = d.take (20 * k) ++ d.drop (20 * k) ++ [] := by rw [List.append_nil, List.take_append_drop]
      have C := insSort wr g n cap key N B (d.take (20 * k)) (d.drop (20 * k)) [] az n (by rw [← e]; exact hr) (HC.out.later hw) (by rw [hd.2.2]; exact HZ.out.sub (List.drop_sublist _ _)) (by simp; omega) (by simp; omega) hn
      have HCC := Lib.hid C
      have HK := Lib.hid (And.intro haz (And.intro hbz hd))
      have HW := Lib.hid hw
      have z1 : ¬ bz ≤ n := by omega
      have z0 : 0 ≤ bz := by omega
      have z2 : 0 ≤ az := by omega
      clear C haz hbz hd hr hw e hdl
      go_wp2_with (fail)
      refine HCC.out.mono ?_
      rintro e w2 ⟨rfl, M, p, s, r, h2⟩
      have HR := Lib.hid (And.intro (stab1_end HK.out.2.2 (by rw [HL.out]; omega) (by rw [HL.out]; exact hkn) p s) (And.intro (show IRow w2 g n cap (d.take (20 * k) ++ M) by simpa using r) (HW.out.trans h2)))
      clear p s r h2 HCC HW HK z1 z0 z2 hlt hkn
      generalize d.take (20 * k) ++ M = d at *
      clear k
      generalize wr = wo at *
      go_wp2_with (fail)
      go_loopw [6] (fun b wr => ∃ (sz : Int) (s : Nat) (d : List Int), b = .int .i64 sz ∧ sz = s ∧ 0 < s ∧ s ≤ 2000020 ∧ Stab2 key s z d 0 ∧ IRow wr g n cap d ∧ Wrote (At1 g) w wr) (fun b _ => n - (intOf b).toNat)
      case atStart => exact ⟨20, 20, _, rfl, rfl, by omega, by omega, HR.out.1, HR.out.2.1, HR.out.2.2⟩
      case round =>
        obtain ⟨sz, s, d, rfl, hsz, hs0, hs1, hd, hr, hw⟩ := hrel
        clear HR
        by_cases hlt : s < n
        · have k1 : sz < n := by omega
          have k0 : 0 < sz := by omega
          have HR := Lib.hid (And.intro hd (And.intro hr hw))
          have HK := Lib.hid hsz
          clear hd hr hw hsz
          generalize wr = wq at *
          go_wp2_with (fail)
          go_loopw [7, 8] (fun a b wr => ∃ (az bz : Int) (k A : Nat) (d : List Int), a = .int .i64 az ∧ b = .int .i64 bz ∧ az = A ∧ bz = A + 2 * s ∧ A = 2 * s * k ∧ A ≤ n ∧ Stab2 key s z d k ∧ IRow wr g n cap d ∧ Wrote (At1 g) w wr) (fun a _ _ => n + 1 - (intOf a).toNat)
          case atStart => exact ⟨0, 2 * sz, 0, 0, d, rfl, by go_num, rfl, by have := HK.out; omega, by simp, Nat.zero_le _, HR.out.1, HR.out.2.1, HR.out.2.2⟩
          case round =>
            obtain ⟨az, bz, k, A, d, rfl, rfl, haz, hbz, hA, hAn, hd, hr, hw⟩ := hrel
            clear HR
            have hdl : d.length = n := hr.len
            by_cases hle : A + 2 * s ≤ n
            · have hb : A + 2 * s = min (2 * s * k + 2 * s) d.length := by omega
              have e := two_parts hb (by omega)
              have l1 : (d.take (2 * s * k)).length = A := by simp; omega
              have es : s * (2 * k) = A := by rw [hA, ← Nat.mul_assoc, Nat.mul_comm s 2]
              have es2 : s * (2 * k + 1) = A + s := by rw [Nat.mul_add, Nat.mul_one, es]
              have l2 : (blk s (2 * k) d).length = s := by unfold blk; rw [es]; simp; omega
              have l3 : (blk s (2 * k + 1) d).length = s := by unfold blk; rw [es2]; simp; omega
              have C := symMerge wr (d.take (2 * s * k)) (blk s (2 * k) d) (blk s (2 * k + 1) d) (d.drop (A + 2 * s)) az (az + sz) bz (stab2_two hd HZ.out hs0 (by rw [HL.out]; omega)) (by rw [← e]; exact hr) (HC.out.later hw) (by omega) (by have := HK.out; omega) (by omega) hn
              have HCC := Lib.hid C
              have HD := Lib.hid (And.intro haz (And.intro hbz (And.intro hA (And.intro hd hb))))
              have HW := Lib.hid hw
              have z1 : bz ≤ n := by omega
              have z2 : 0 ≤ az := by omega
              have z3 : az ≤ n := by omega
              have z4 : sz ≤ 2000020 := by have := HK.out; omega
              have z5 : 0 ≤ bz := by omega
              clear C haz hbz hA hd hr hw e l1 es es2 l2 l3 hb
              go_wp2_with (fail)
              refine HCC.out.mono ?_
              rintro e w2 ⟨rfl, M, p, q, r, h2⟩
              have HR := Lib.hid (And.intro (stab2_next HD.out.2.2.2.1 (by rw [HL.out]; have := HD.out; omega) (show A + 2 * s = min (2 * s * k + 2 * s) z.length by rw [HL.out]; have := HD.out; omega) p q) (And.intro r (HW.out.trans h2)))
              clear p q r h2 HCC HW
              go_wp2
              go_roundw
              case rel => exact ⟨bz, bz + 2 * sz, k + 1, A + 2 * s, _, rfl, by go_num, by have := HD.out; omega, by have := HD.out; have := HK.out; omega, by have := HD.out; rw [Nat.mul_add, Nat.mul_one]; omega, hle, HR.out.1, HR.out.2.1, HR.out.2.2⟩
              case measure => have := HD.out; have := HK.out; simp [intOf]; omega
            · by_cases hm : A + s < n
              · have hb : n = min (2 * s * k + 2 * s) d.length := by omega
                have e := two_parts hb (by omega)
                have l1 : (d.take (2 * s * k)).length = A := by simp; omega
                have es : s * (2 * k) = A := by rw [hA, ← Nat.mul_assoc, Nat.mul_comm s 2]
                have es2 : s * (2 * k + 1) = A + s := by rw [Nat.mul_add, Nat.mul_one, es]
                have l2 : (blk s (2 * k) d).length = s := by unfold blk; rw [es]; simp; omega
                have l3 : (blk s (2 * k + 1) d).length = n - (A + s) := by unfold blk; rw [es2]; simp; omega
                have C := symMerge wr (d.take (2 * s * k)) (blk s (2 * k) d) (blk s (2 * k + 1) d) (d.drop n) az (az + sz) n (stab2_two hd HZ.out hs0 (by rw [HL.out]; omega)) (by rw [← e]; exact hr) (HC.out.later hw) (by omega) (by have := HK.out; omega) (by omega) hn
                have HCC := Lib.hid C
                have HD := Lib.hid (And.intro haz (And.intro hbz (And.intro hA (And.intro hd hb))))
                have HW := Lib.hid hw
                have z1 : ¬ bz ≤ n := by omega
                have z2 : 0 ≤ az := by omega
                have z3 : az ≤ n := by omega
                have z4 : sz ≤ 2000020 := by have := HK.out; omega
                have z5 : az + sz < n := by have := HK.out; omega
                clear C haz hbz hA hd hr hw e l1 es es2 l2 l3 hb
                go_wp2_with (fail)
                refine HCC.out.mono ?_
                rintro e w2 ⟨rfl, M, p, q, r, h2⟩
                have HR := Lib.hid (And.intro (stab2_done (stab2_next HD.out.2.2.2.1 (by rw [HL.out]; have := HD.out; omega) (show n = min (2 * s * k + 2 * s) z.length by rw [HL.out]; have := HD.out; omega) p q) (by rw [HL.out, Nat.mul_add, Nat.mul_one]; have := HD.out; omega)) (And.intro r (HW.out.trans h2)))
                clear p q r h2 HCC HW
                go_wp2
                go_roundw
                case rel => exact ⟨sz * 2, 2 * s, _, by go_num, by have := HK.out; omega, by omega, by omega, HR.out.1, HR.out.2.1, HR.out.2.2⟩
                case measure => have := HK.out; simp [intOf]; omega
              · have HR := Lib.hid (And.intro (stab2_done hd (by rw [HL.out]; omega)) (And.intro hr hw))
                have z1 : ¬ bz ≤ n := by omega
                have z2 : 0 ≤ az := by omega
                have z3 : az ≤ n := by omega
                have z4 : sz ≤ 2000020 := by have := HK.out; omega
                have z5 : ¬ az + sz < n := by have := HK.out; omega
                clear haz hbz hA hd hr hw
                go_wp2
                go_roundw
                case rel => exact ⟨sz * 2, 2 * s, _, by go_num, by have := HK.out; omega, by omega, by omega, HR.out.1, HR.out.2.1, HR.out.2.2⟩
                case measure => have := HK.out; simp [intOf]; omega
        · have k1 : ¬ sz < n := by omega
          have he := stab2_end hd (by rw [HL.out]; omega)
          have HE := Lib.hid (show SortedRow w g n cap key z (.returned (.tuple #[])) wr from ⟨rfl, d, he.1, he.2, hr, hw⟩)
          clear he hd hr hw hsz
          go_wp2
          go_end0
          exact HE.out

set_option maxRecDepth 100000 in
set_option maxHeartbeats 4000000 in
theorem sortStable (w : World) {g n cap : Nat} {key : Int → Int} {N : Int} {B : Nat} (z : List Int) (h : IRow w g n cap z) (hC : CmpAt key N B g w) (hz : Rises N z) (hn : n ≤ 1000000) :
    Calls Try.prog 30 #[.slice (some ⟨g, 0, none⟩) n cap, .func (.func 31) #[] #[.pointer (some ⟨B, 0, none⟩)]] w (SortedRow w g n cap key z) := by
  have HC := Lib.hid (stableAny w z h hC hz hn)
  clear h hC hz
  go_enter Try.func30, Try.ntmps30
  go_wp2_with (fail)
  refine HC.out.mono ?_
  rintro e w2 ⟨rfl, M, p, s, r, h2⟩
  have HR := Lib.hid (show SortedRow w g n cap key z (.returned (.tuple #[])) w2 from ⟨rfl, M, p, s, r, h2⟩)
  clear p s r h2
  go_wp2
  go_end0
  exact HR.out

/-- Nothing is sorted. -/
theorem insNil (w : World) (f : Value) (b : Int) (hb : b ≤ 1) :
    Calls Try.prog 47 #[.slice none 0 0, .int .i64 0, .int .i64 b, f] w fun e w' => e = .returned (.tuple #[]) ∧ w = w' := by
  have h1 : ¬ 1 < b := by omega
  go_enter Try.func47, Try.ntmps47
  go_wp2
  refine wp_loop_rounds 1 ?_
  rw [rounds_succ]
  go_wp2
  go_end0
  exact ⟨rfl, rfl⟩
theorem stableNil (w : World) (f : Value) :
    Calls Try.prog 41 #[.slice none 0 0, .int .i64 0, f] w fun e w' => e = .returned (.tuple #[]) ∧ w = w' := by
  go_enter Try.func41, Try.ntmps41
  go_wp2
  refine wp_loop_rounds 1 ?_
  rw [rounds_succ]
  go_wp2_with (fail)
  refine (insNil w f 0 (by omega)).mono ?_
  rintro e w' ⟨rfl, rfl⟩
  go_wp2
  refine wp_loop_rounds 1 ?_
  rw [rounds_succ]
  go_wp2
  go_end0
  exact ⟨rfl, rfl⟩
theorem sortNil (w : World) (f : Value) :
    Calls Try.prog 30 #[.slice none 0 0, f] w fun e w' => e = .returned (.tuple #[]) ∧ w = w' := by
  go_enter Try.func30, Try.ntmps30
  go_wp2_with (fail)
  refine (stableNil w f).mono ?_
  rintro e w' ⟨rfl, rfl⟩
  go_wp2
  go_end0
  exact ⟨rfl, rfl⟩

end Go.Proofs.Ytejnadokjnfagaa
