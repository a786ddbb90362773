/-
  slices.swapRangeCmpFunc exchanges two ranges of a row of ints. Conditions: a row of one's own. slices.rotateCmpFunc exchanges two ranges of a row of ints that lie side by side. Conditions: a row of one's own.
-/
import Derived.Test.YtniefplgijpckaaGreatIns11m
namespace Go.Proofs.YtniefplgijpckaaGreat
open Go.RowKit

def SwRel (w : World) (g n cap : Nat) (P A Q B S : List Int) (i : Value) (wr : World) : Prop :=
  ∃ k : Nat, k ≤ A.length ∧ i = .int .i64 k ∧ IRow wr g n cap (P ++ (B.take k ++ A.drop k) ++ Q ++ (A.take k ++ B.drop k) ++ S) ∧ Wrote (At1 g) w wr

theorem sw_step {P A Q B S : List Int} {k : Nat} (hk : k < A.length) (hab : A.length = B.length) :
    ((P ++ (B.take k ++ A.drop k) ++ Q ++ (A.take k ++ B.drop k) ++ S).set (P.length + k) (B.getD k 0)).set (P.length + A.length + Q.length + k) (A.getD k 0)
      = P ++ (B.take (k + 1) ++ A.drop (k + 1)) ++ Q ++ (A.take (k + 1) ++ B.drop (k + 1)) ++ S := by
  have hkb : k < B.length := by omega
  have ea : A.drop k = A.getD k 0 :: A.drop (k + 1) := by rw [List.drop_eq_getElem_cons hk]; simp [List.getD, hk]
  have eb : B.drop k = B.getD k 0 :: B.drop (k + 1) := by rw [List.drop_eq_getElem_cons hkb]; simp [List.getD, hkb]
  have ta : A.take (k + 1) = A.take k ++ [A.getD k 0] := by rw [List.take_succ_eq_append_getElem hk]; simp [List.getD, hk]
  have tb : B.take (k + 1) = B.take k ++ [B.getD k 0] := by rw [List.take_succ_eq_append_getElem hkb]; simp [List.getD, hkb]
  have h := exch (P ++ B.take k) (A.drop (k + 1) ++ Q ++ A.take k) (B.drop (k + 1) ++ S) (A.getD k 0) (B.getD k 0)
  have l1 : (P ++ B.take k).length = P.length + k := by simp; omega
  have l2 : (P ++ B.take k).length + 1 + (A.drop (k + 1) ++ Q ++ A.take k).length = P.length + A.length + Q.length + k := by simp; omega
  rw [l2, l1] at h
  rw [ea, eb, ta, tb]
  simpa using h

theorem sw_cells {P A Q B S : List Int} {k : Nat} (hk : k < A.length) (hab : A.length = B.length) :
    (P ++ (B.take k ++ A.drop k) ++ Q ++ (A.take k ++ B.drop k) ++ S).getD (P.length + k) 0 = A.getD k 0 ∧
    (P ++ (B.take k ++ A.drop k) ++ Q ++ (A.take k ++ B.drop k) ++ S).getD (P.length + A.length + Q.length + k) 0 = B.getD k 0 := by
  have hkb : k < B.length := by omega
  have ea : A.drop k = A.getD k 0 :: A.drop (k + 1) := by rw [List.drop_eq_getElem_cons hk]; simp [List.getD, hk]
  have eb : B.drop k = B.getD k 0 :: B.drop (k + 1) := by rw [List.drop_eq_getElem_cons hkb]; simp [List.getD, hkb]
  constructor
  · have h := getD_head (P ++ B.take k) (A.drop (k + 1) ++ Q ++ (A.take k ++ B.drop k) ++ S) (A.getD k 0)
    have l1 : (P ++ B.take k).length = P.length + k := by simp; omega
    rw [l1] at h
    rw [ea]
    simpa using h
  · have h := getD_head (P ++ (B.take k ++ A.drop k) ++ Q ++ A.take k) (B.drop (k + 1) ++ S) (B.getD k 0)
    have l2 : (P ++ (B.take k ++ A.drop k) ++ Q ++ A.take k).length = P.length + A.length + Q.length + k := by simp; omega
    rw [l2] at h
    rw [eb]
    simpa using h

set_option maxRecDepth 100000 in
set_option maxHeartbeats 4000000 in
theorem swapRange (w : World) (g n cap : Nat) (P A Q B S : List Int) (a b m : Int) (f : Value) (h : IRow w g n cap (P ++ A ++ Q ++ B ++ S)) (hab : A.length = B.length) (hm : m = A.length) (ha : a = P.length) (hb : b = P.length + A.length + Q.length) (hn : n ≤ 1000000) :
    Calls Tryz.prog 167 #[.slice (some ⟨g, 0, none⟩) n cap, .int .i64 a, .int .i64 b, .int .i64 m, f] w (Rearr w g n cap (P ++ B ++ Q ++ A ++ S)) := by
  have hl : P.length + A.length + Q.length + B.length ≤ n := by have := h.len; simp at this; omega
  have HA := Lib.hid ha
  have HB := Lib.hid hb
  have HM := Lib.hid hm
  have a0 : 0 ≤ a := by omega
  have b0 : 0 ≤ b := by omega
  have ab : a + m ≤ n := by omega
  have bb : b + m ≤ n := by omega
  have m0 : 0 ≤ m := by omega
  clear ha hb hm
  have HS := Lib.hid (show SwRel w g n cap P A Q B S (.int .i64 0) w from ⟨0, Nat.zero_le _, rfl, by simpa using h, Wrote.refl _ _⟩)
  clear h
  go_enter Tryz.func167, Tryz.ntmps167
  go_wp2
  go_loopw [10] (fun i wr => SwRel w g n cap P A Q B S i wr) (fun i _ => A.length - (intOf i).toNat)
  case atStart => exact HS.out
  case round =>
    obtain ⟨k, hk, rfl, hr, hw⟩ := hrel
    have HR := Lib.hid hr
    have HW := Lib.hid hw
    clear HS hr hw
    by_cases hlt : k < A.length
    · have hlt' : (k : Int) < m := by have := HM.out; omega
      obtain ⟨x, hx⟩ : ∃ x, A.getD k 0 = x := ⟨_, rfl⟩
      obtain ⟨y, hy⟩ : ∃ y, B.getD k 0 = y := ⟨_, rfl⟩
      obtain ⟨p, hp⟩ : ∃ p, P.length + k = p := ⟨_, rfl⟩
      obtain ⟨q, hq⟩ : ∃ q, P.length + A.length + Q.length + k = q := ⟨_, rfl⟩
      have hc := sw_cells (P := P) (Q := Q) (S := S) hlt hab
      rw [hx, hy, hp, hq] at hc
      have c1 := HR.out.cell (i := p) (by omega)
      have c2 := HR.out.cell (i := q) (by omega)
      rw [hc.1] at c1
      rw [hc.2] at c2
      have f1 := HR.out.free p
      have f2 := HR.out.free q
      obtain ⟨u, c3⟩ := HR.out.still (i := p) (j := q) (by omega) (by omega) y
      have HN := Lib.hid (HR.out.swap p q y x)
      have HV := Lib.hid (HW.out.trans (wrote_swap wr g p q (.int .i64 y) (.int .i64 x)))
      have e1 : (a + (k : Int)).toNat = p := by have := HA.out; omega
      have e2 : (b + (k : Int)).toNat = q := by have := HB.out; omega
      have e3 : IntKind.i64.wrap (a + (k : Int)) = a + k := by rw [IntKind.wrap_i64]; omega
      have e4 : IntKind.i64.wrap (b + (k : Int)) = b + k := by rw [IntKind.wrap_i64]; omega
      have e5 : 0 ≤ a + (k : Int) := by omega
      have e6 : 0 ≤ b + (k : Int) := by omega
      have e7 : a + (k : Int) < n := by omega
      have e8 : b + (k : Int) < n := by omega
      have HX := Lib.hid (And.intro (And.intro hx hy) (And.intro hp hq))
      clear hc hx hy hp hq HR HW
      go_wp2_with fail
      go_big_region
      clear c1 c2 c3 f1 f2 e1 e2 e3 e4
      generalize ((wr.setCell ⟨g, p, none⟩ (.int .i64 y)).setCell ⟨g, q, none⟩ (.int .i64 x)).drew = w2 at *
      go_wp2
      go_roundw
      case rel => exact ⟨k + 1, by omega, by go_num, by have e := sw_step (P := P) (Q := Q) (S := S) hlt hab; rw [HX.out.1.1, HX.out.1.2, HX.out.2.1, HX.out.2.2] at e; rw [← e]; exact HN.out, HV.out⟩
      case measure => simp [intOf]; omega
    · obtain rfl : k = A.length := by omega
      have hlt' : ¬ ((A.length : Nat) : Int) < m := by have := HM.out; omega
      have HF := Lib.hid (show IRow wr g n cap (P ++ B ++ Q ++ A ++ S) by have := HR.out; rw [List.take_of_length_le (show B.length ≤ A.length by omega), List.take_of_length_le (show A.length ≤ A.length by omega), List.drop_eq_nil_of_le (show A.length ≤ A.length by omega), List.drop_eq_nil_of_le (show B.length ≤ A.length by omega)] at this; simpa using this)
      clear HR
      go_wp2
      go_end0
      exact ⟨rfl, by simpa using HF.out, HW.out⟩

end Go.Proofs.YtniefplgijpckaaGreat
namespace Go.Proofs.YtniefplgijpckaaGreat
open Go.RowKit

def RotRel (w : World) (g n cap : Nat) (m : Nat) (T : List Int) (i j : Value) (wr : World) : Prop :=
  ∃ P U V S : List Int, i = .int .i64 U.length ∧ j = .int .i64 V.length ∧ 0 < U.length ∧ 0 < V.length ∧ P.length + U.length = m ∧ IRow wr g n cap (P ++ U ++ V ++ S) ∧ P ++ V ++ U ++ S = T ∧ Wrote (At1 g) w wr

theorem front_of {l : List Int} {k : Nat} (h : k ≤ l.length) : ∃ a b, l = a ++ b ∧ a.length = k ∧ b.length = l.length - k := ⟨l.take k, l.drop k, by simp, by simp; omega, by simp⟩

set_option maxRecDepth 100000 in
set_option maxHeartbeats 4000000 in
theorem rotateRow (w : World) (g n cap : Nat) (P U V S : List Int) (a m b : Int) (f : Value) (h : IRow w g n cap (P ++ U ++ V ++ S)) (hu : 0 < U.length) (hv : 0 < V.length) (ha : a = P.length) (hm : m = P.length + U.length) (hb : b = P.length + U.length + V.length) (hn : n ≤ 1000000) :
    Calls Tryz.prog 166 #[.slice (some ⟨g, 0, none⟩) n cap, .int .i64 a, .int .i64 m, .int .i64 b, f] w (Rearr w g n cap (P ++ V ++ U ++ S)) := by
  have hl : P.length + U.length + V.length + S.length = n := by have := h.len; simp at this; omega
  obtain ⟨M, hM⟩ : ∃ M : Nat, P.length + U.length = M := ⟨_, rfl⟩
  obtain rfl : m = M := by omega
  have ea : (M : Int) - a = U.length := by omega
  have eb : b - (M : Int) = V.length := by omega
  have a0 : 0 ≤ (M : Int) - a := by omega
  have a1 : (M : Int) - a ≤ n := by omega
  have b0 : 0 ≤ b - (M : Int) := by omega
  have b1 : b - (M : Int) ≤ n := by omega
  obtain ⟨T, hT⟩ : ∃ T, P ++ V ++ U ++ S = T := ⟨_, rfl⟩
  rw [hT]
  have HS := Lib.hid (show RotRel w g n cap M T (.int .i64 U.length) (.int .i64 V.length) w from ⟨P, U, V, S, rfl, rfl, hu, hv, hM, h, hT, Wrote.refl _ _⟩)
  have hMn : M ≤ n := by omega
  have u1 : (U.length : Int) ≤ n := by omega
  have v1 : (V.length : Int) ≤ n := by omega
  clear h hT hM hm ha hb hl
  generalize (U.length : Int) = u at *
  generalize (V.length : Int) = v at *
  have HEA := Lib.hid ea
  have HEB := Lib.hid eb
  clear ea eb u1 v1
  go_enter Tryz.func166, Tryz.ntmps166
  go_wp2
  go_loopw [10, 11] (fun i j wr => RotRel w g n cap M T i j wr) (fun i j _ => (intOf i).toNat + (intOf j).toNat)
  case atStart => rw [HEA.out, HEB.out]; exact HS.out
  case round =>
    obtain ⟨P', U', V', S', rfl, rfl, hu', hv', hM', hr, hT, hw⟩ := hrel
    have hl : P'.length + U'.length + V'.length + S'.length = n := by have := hr.len; simp at this; omega
    have HR := Lib.hid hr
    have HW := Lib.hid hw
    have HT := Lib.hid hT
    have HM := Lib.hid (And.intro hM' hl)
    clear HS hr hw hT hM' hl
    rcases Nat.lt_trichotomy U'.length V'.length with hlt | heq | hgt
    · have hM' := HM.out.1
      have hl := HM.out.2
      obtain ⟨V1, V2, e1, l1, l2⟩ := front_of (l := V') (k := V'.length - U'.length) (by omega)
      have d0 : ((U'.length : Int) == (V'.length : Int)) = false := beq_eq_false_iff_ne.2 (by omega)
      have d1 : ((U'.length : Int) != (V'.length : Int)) = true := bne_iff_ne.2 (by omega)
      have d2 : ¬ (V'.length : Int) < (U'.length : Int) := by omega
      have C := swapRange wr g n cap P' U' V1 V2 S' ((M : Int) - U'.length) ((M : Int) + V'.length - U'.length) U'.length f (by have := HR.out; rw [e1] at this; simpa using this) (by omega) rfl (by omega) (by omega) hn
      have HC := Lib.hid C
      have HE := Lib.hid (And.intro e1 (And.intro l1 l2))
      have k1 : (0 : Int) ≤ (M : Int) - U'.length := by omega
      have k2 : (0 : Int) ≤ (M : Int) + V'.length - U'.length := by omega
      have k3 : (M : Int) + V'.length ≤ n := by omega
      clear C e1 l1 l2 HR hM' hl
      go_wp2_with fail
      refine HC.out.mono ?_
      rintro e w2 ⟨rfl, r2, h2⟩
      have HR2 := Lib.hid r2
      have HW2 := Lib.hid (HW.out.trans h2)
      clear r2 h2 HW HC
      go_wp2
      go_roundw
      case rel => exact ⟨P', V2, V1, U' ++ S', by rw [show V2.length = U'.length by have := HE.out; omega], by rw [show (V1.length : Int) = (V'.length : Int) - U'.length by have := HE.out; omega], by have := HE.out; omega, by have := HE.out; omega, by have := HE.out; have := HM.out; omega, by simpa using HR2.out, by rw [← HT.out, HE.out.1]; simp, HW2.out⟩
      case measure => simp [intOf]; omega
    · have hM' := HM.out.1
      have hl := HM.out.2
      have d0 : ((U'.length : Int) == (V'.length : Int)) = true := beq_iff_eq.2 (by omega)
      have d1 : ((U'.length : Int) != (V'.length : Int)) = false := by rw [bne, d0]; rfl
      have C := swapRange wr g n cap P' U' [] V' S' ((M : Int) - U'.length) M U'.length f (by simpa using HR.out) (by omega) rfl (by omega) (by simp; omega) hn
      have HC := Lib.hid C
      have k1 : (0 : Int) ≤ (M : Int) - U'.length := by omega
      clear C HR hM' hl heq
      go_wp2_with fail
      refine HC.out.mono ?_
      rintro e w2 ⟨rfl, r2, h2⟩
      have HR2 := Lib.hid (show IRow w2 g n cap T by rw [← HT.out]; simpa using r2)
      have HW2 := Lib.hid (HW.out.trans h2)
      clear r2 h2 HW HC
      go_wp2
      go_end0
      exact ⟨rfl, HR2.out, HW2.out⟩
    · have hM' := HM.out.1
      have hl := HM.out.2
      obtain ⟨U1, U2, e1, l1, l2⟩ := front_of (l := U') (k := V'.length) (by omega)
      have d0 : ((U'.length : Int) == (V'.length : Int)) = false := beq_eq_false_iff_ne.2 (by omega)
      have d1 : ((U'.length : Int) != (V'.length : Int)) = true := bne_iff_ne.2 (by omega)
      have d2 : (V'.length : Int) < (U'.length : Int) := by omega
      have C := swapRange wr g n cap P' U1 U2 V' S' ((M : Int) - U'.length) M V'.length f (by have := HR.out; rw [e1] at this; simpa using this) (by omega) (by omega) (by omega) (by omega) hn
      have HC := Lib.hid C
      have HE := Lib.hid (And.intro e1 (And.intro l1 l2))
      have k1 : (0 : Int) ≤ (M : Int) - U'.length := by omega
      clear C e1 l1 l2 HR hM' hl
      go_wp2_with fail
      refine HC.out.mono ?_
      rintro e w2 ⟨rfl, r2, h2⟩
      have HR2 := Lib.hid r2
      have HW2 := Lib.hid (HW.out.trans h2)
      clear r2 h2 HW HC
      go_wp2
      go_roundw
      case rel => exact ⟨P' ++ V', U2, U1, S', by rw [show (U2.length : Int) = (U'.length : Int) - V'.length by have := HE.out; omega], by rw [show U1.length = V'.length by have := HE.out; omega], by have := HE.out; omega, by have := HE.out; omega, by have := HE.out; have := HM.out; simp; omega, by simpa using HR2.out, by rw [← HT.out, HE.out.1]; simp, HW2.out⟩
      case measure => simp [intOf]; omega

end Go.Proofs.YtniefplgijpckaaGreat
