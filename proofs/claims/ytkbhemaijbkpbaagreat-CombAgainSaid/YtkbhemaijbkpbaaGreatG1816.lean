/-
  slices.rotateCmpFunc exchanges two ranges of a row of ints that lie side by side. Conditions: a row of one's own. slices.symMergeCmpFunc merges two sorted ranges of a row of ints that lie side by side: the way that cuts both. Conditions: a row of one's own; a comparison as CmpAt says; the left numbers are less than the right ones; what it calls by itself is known. slices.symMergeCmpFunc merges two sorted ranges of a row of ints that lie side by side, where one of them has one number. Conditions: a row of one's own; a comparison as CmpAt says; the left numbers are less than the right ones. slices.symMergeCmpFunc merges two sorted ranges of a row of ints that lie side by side, however many numbers they have. Conditions: a row of one's own; a comparison as CmpAt says; the left numbers are less than the right ones.
-/
import Derived.Test.YtkbhemaijbkpbaaGreatG1716
import Derived.Deep.DeepCutAuto
namespace Go.Proofs.YtkbhemaijbkpbaaGreat
open Go.RowKit

def RotRel (w : World) (g n cap : Nat) (m : Nat) (T : List Int) (i j : Value) (wr : World) : Prop :=
  ∃ P U V S : List Int, i = .int .i64 U.length ∧ j = .int .i64 V.length ∧ 0 < U.length ∧ 0 < V.length ∧ P.length + U.length = m ∧ IRow wr g n cap (P ++ U ++ V ++ S) ∧ P ++ V ++ U ++ S = T ∧ Wrote (At1 g) w wr

theorem front_of {l : List Int} {k : Nat} (h : k ≤ l.length) : ∃ a b, l = a ++ b ∧ a.length = k ∧ b.length = l.length - k := ⟨l.take k, l.drop k, by simp, by simp; omega, by simp⟩

set_option maxRecDepth 100000 in
set_option maxHeartbeats 4000000 in
theorem rotateRow (w : World) (g n cap : Nat) (P U V S : List Int) (a m b : Int) (f : Value) (h : IRow w g n cap (P ++ U ++ V ++ S)) (hu : 0 < U.length) (hv : 0 < V.length) (ha : a = P.length) (hm : m = P.length + U.length) (hb : b = P.length + U.length + V.length) (hn : n ≤ 1000000) :
    Calls Tryz.prog 246 #[.slice (some ⟨g, 0, none⟩) n cap, .int .i64 a, .int .i64 m, .int .i64 b, f] w (Rearr w g n cap (P ++ V ++ U ++ S)) := by
  have hl : P.length + U.length + V.length + S.length = n := by have := h.len; simp at this; omega
  obtain ⟨M, hM⟩ : ∃ M : Nat, P.length + U.length = M := ⟨_, rfl⟩
  obtain rfl : m = M := by omega
  have ea : (M : Int) - a = U.length := by omega
  have eb : b - (M : Int) = V.length := by omega
  have a0 : 0 ≤ (M : Int) - a := by omega
  have a1 : (M : Int) - a ≤ n := by omega
  have b0 : 0 ≤ b - (M : Int) := by omega
  have b1 : b - (M : Int) ≤ n := by omega
  obtain ⟨T, hT⟩ : ∃ T, P ++ V ++ U ++ S = T := ⟨_, rfl⟩
  rw [hT]
  have HS := Lib.hid (show RotRel w g n cap M T (.int .i64 U.length) (.int .i64 V.length) w from ⟨P, U, V, S, rfl, rfl, hu, hv, hM, h, hT, Wrote.refl _ _⟩)
  have hMn : M ≤ n := by omega
  have u1 : (U.length : Int) ≤ n := by omega
  have v1 : (V.length : Int) ≤ n := by omega
  clear h hT hM hm ha hb hl
  generalize (U.length : Int) = u at *
  generalize (V.length : Int) = v at *
  have HEA := Lib.hid ea
  have HEB := Lib.hid eb
  clear ea eb u1 v1
  go_enter Tryz.func246, Tryz.ntmps246
  go_wp2
  go_loopw [10, 11] (fun i j wr => RotRel w g n cap M T i j wr) (fun i j _ => (intOf i).toNat + (intOf j).toNat)
  case atStart => rw [HEA.out, HEB.out]; exact HS.out
  case round =>
    obtain ⟨P', U', V', S', rfl, rfl, hu', hv', hM', hr, hT, hw⟩ := hrel
    have hl : P'.length + U'.length + V'.length + S'.length = n := by have := hr.len; simp at this; omega
    have HR := Lib.hid hr
    have HW := Lib.hid hw
    have HT := Lib.hid hT
    have HM := Lib.hid (And.intro hM' hl)
    clear HS hr hw hT hM' hl
    rcases Nat.lt_trichotomy U'.length V'.length with hlt | heq | hgt
    · have hM' := HM.out.1
      have hl := HM.out.2
      obtain ⟨V1, V2, e1, l1, l2⟩ := front_of (l := V') (k := V'.length - U'.length) (by omega)
      have d0 : ((U'.length : Int) == (V'.length : Int)) = false := beq_eq_false_iff_ne.2 (by omega)
      have d1 : ((U'.length : Int) != (V'.length : Int)) = true := bne_iff_ne.2 (by omega)
      have d2 : ¬ (V'.length : Int) < (U'.length : Int) := by omega
      have C := swapRange wr g n cap P' U' V1 V2 S' ((M : Int) - U'.length) ((M : Int) + V'.length - U'.length) U'.length f (by have := HR.out; rw [e1] at this; simpa using this) (by omega) rfl (by omega) (by omega) hn
      have HC := Lib.hid C
      have HE := Lib.hid (And.intro e1 (And.intro l1 l2))
      have k1 : (0 : Int) ≤ (M : Int) - U'.length := by omega
      have k2 : (0 : Int) ≤ (M : Int) + V'.length - U'.length := by omega
      have k3 : (M : Int) + V'.length ≤ n := by omega
      clear C e1 l1 l2 HR hM' hl
      go_wp2_with fail
      refine HC.out.mono ?_
      rintro e w2 ⟨rfl, r2, h2⟩
      have HR2 := Lib.hid r2
      have HW2 := Lib.hid (HW.out.trans h2)
      clear r2 h2 HW HC
      go_wp2
      go_roundw
      case rel => exact ⟨P', V2, V1, U' ++ S', by rw [show V2.length = U'.length by have := HE.out; omega], by rw [show (V1.length : Int) = (V'.length : Int) - U'.length by have := HE.out; omega], by have := HE.out; omega, by have := HE.out; omega, by have := HE.out; have := HM.out; omega, by simpa using HR2.out, by rw [← HT.out, HE.out.1]; simp, HW2.out⟩
      case measure => simp [intOf]; omega
    · have hM' := HM.out.1
      have hl := HM.out.2
      have d0 : ((U'.length : Int) == (V'.length : Int)) = true := beq_iff_eq.2 (by omega)
      have d1 : ((U'.length : Int) != (V'.length : Int)) = false := by rw [bne, d0]; rfl
      have C := swapRange wr g n cap P' U' [] V' S' ((M : Int) - U'.length) M U'.length f (by simpa using HR.out) (by omega) rfl (by omega) (by simp; omega) hn
      have HC := Lib.hid C
      have k1 : (0 : Int) ≤ (M : Int) - U'.length := by omega
      clear C HR hM' hl heq
      go_wp2_with fail
      refine HC.out.mono ?_
      rintro e w2 ⟨rfl, r2, h2⟩
      have HR2 := Lib.hid (show IRow w2 g n cap T by rw [← HT.out]; simpa using r2)
      have HW2 := Lib.hid (HW.out.trans h2)
      clear r2 h2 HW HC
      go_wp2
      go_end0
      exact ⟨rfl, HR2.out, HW2.out⟩
    · have hM' := HM.out.1
      have hl := HM.out.2
      obtain ⟨U1, U2, e1, l1, l2⟩ := front_of (l := U') (k := V'.length) (by omega)
      have d0 : ((U'.length : Int) == (V'.length : Int)) = false := beq_eq_false_iff_ne.2 (by omega)
      have d1 : ((U'.length : Int) != (V'.length : Int)) = true := bne_iff_ne.2 (by omega)
      have d2 : (V'.length : Int) < (U'.length : Int) := by omega
      have C := swapRange wr g n cap P' U1 U2 V' S' ((M : Int) - U'.length) M V'.length f (by have := HR.out; rw [e1] at this; simpa using this) (by omega) (by omega) (by omega) (by omega) hn
      have HC := Lib.hid C
      have HE := Lib.hid (And.intro e1 (And.intro l1 l2))
      have k1 : (0 : Int) ≤ (M : Int) - U'.length := by omega
      clear C e1 l1 l2 HR hM' hl
      go_wp2_with fail
      refine HC.out.mono ?_
      rintro e w2 ⟨rfl, r2, h2⟩
      have HR2 := Lib.hid r2
      have HW2 := Lib.hid (HW.out.trans h2)
      clear r2 h2 HW HC
      go_wp2
      go_roundw
      case rel => exact ⟨P' ++ V', U2, U1, S', by rw [show (U2.length : Int) = (U'.length : Int) - V'.length by have := HE.out; omega], by rw [show U1.length = V'.length by have := HE.out; omega], by have := HE.out; omega, by have := HE.out; omega, by have := HE.out; have := HM.out; simp; omega, by simpa using HR2.out, by rw [← HT.out, HE.out.1]; simp, HW2.out⟩
      case measure => simp [intOf]; omega

end Go.Proofs.YtkbhemaijbkpbaaGreat
namespace Go.Proofs.YtkbhemaijbkpbaaGreat
open Go.RowKit

/-- What is asked of two ranges that are to be merged. -/
structure TwoOk (key : Int → Int) (N : Int) (L R : List Int) : Prop where
  l0 : 0 < L.length
  r0 : 0 < R.length
  ls : Srt key L
  rs : Srt key R
  lt : ∀ x ∈ L, ∀ y ∈ R, x < y
  ok : ∀ x ∈ L ++ R, 0 ≤ x ∧ x < N

/-- Merging, of fewer than K in all. -/
def SymSaid (g n cap : Nat) (key : Int → Int) (N : Int) (B K : Nat) : Prop :=
  ∀ (w : World) (P L R S : List Int) (a m b : Int), L.length + R.length < K → TwoOk key N L R → IRow w g n cap (P ++ L ++ R ++ S) → CmpAt key N B g w → a = P.length → m = P.length + L.length → b = P.length + L.length + R.length →
    Calls Tryz.prog 245 #[.slice (some ⟨g, 0, none⟩) n cap, .int .i64 a, .int .i64 m, .int .i64 b, .func (.func 235) #[] #[.pointer (some ⟨B, 0, none⟩)]] w (Sortd w g n cap key P (L ++ R) S)

theorem two_l {P L R S : List Int} {i : Nat} (h1 : P.length ≤ i) (h2 : i < P.length + L.length) : (P ++ L ++ R ++ S).getD i 0 = L.getD (i - P.length) 0 := by
  obtain ⟨j, rfl⟩ : ∃ j, i = P.length + j := ⟨i - P.length, by omega⟩
  rw [List.append_assoc, List.append_assoc, getD_at, getD_left _ _ _ (by omega), Nat.add_sub_cancel_left]
theorem two_r {P L R S : List Int} {i : Nat} (h1 : P.length + L.length ≤ i) (h2 : i < P.length + L.length + R.length) : (P ++ L ++ R ++ S).getD i 0 = R.getD (i - (P.length + L.length)) 0 := by
  obtain ⟨j, rfl⟩ : ∃ j, i = (P ++ L).length + j := ⟨i - (P.length + L.length), by simp; omega⟩
  rw [List.append_assoc, getD_at, getD_left _ _ _ (by simp at h2; omega)]
  congr 1
  simp

/-- Where a search of both sides stands: at s and at r. -/
def SymC (key : Int → Int) (L R : List Int) (a m nn s0 r0 s r : Int) : Prop :=
  (s = s0 ∨ ¬ key (R.getD (nn - s - m).toNat 0) < key (L.getD (s - 1 - a).toNat 0)) ∧ (r = r0 ∨ key (R.getD (nn - 1 - r - m).toNat 0) < key (L.getD (r - a).toNat 0))

/-- What is known of where it begins. -/
structure SymF (a m b mid s0 r0 : Int) : Prop where
  a1 : a ≤ s0
  a2 : s0 ≤ r0
  a3 : r0 ≤ m
  a4 : mid + m - s0 ≤ b
  a5 : m ≤ mid + m - r0
  a6 : s0 = a ∨ mid + m - s0 = b
  a7 : r0 = m ∨ mid + m - r0 = m

theorem sym_cut {key : Int → Int} {N : Int} {L R : List Int} (h : TwoOk key N L R) {a m b mid s0 r0 s : Int} (hf : SymF a m b mid s0 r0) (hm : m = a + L.length) (hb : b = m + R.length) (h1 : s0 ≤ s) (h2 : s ≤ r0) (hc : SymC key L R a m (mid + m) s0 r0 s s) :
    ((s - a).toNat = 0 ∨ (mid - s).toNat = R.length ∨ kLe key (L.getD ((s - a).toNat - 1) 0) (R.getD (mid - s).toNat 0)) ∧ ((mid - s).toNat = 0 ∨ (s - a).toNat = L.length ∨ kLe key (R.getD ((mid - s).toNat - 1) 0) (L.getD (s - a).toNat 0)) := by
  obtain ⟨c1, c2⟩ := hc
  obtain ⟨f1, f2, f3, f4, f5, f6, f7⟩ := hf
  constructor
  · rcases c1 with c | c
    · rcases f6 with f | f
      · left; omega
      · right; left; omega
    · by_cases e1 : s = a
      · left; omega
      · by_cases e2 : mid - s = R.length
        · right; left; omega
        · right; right
          rw [show (mid + m - s - m).toNat = (mid - s).toNat by omega, show (s - 1 - a).toNat = (s - a).toNat - 1 by omega] at c
          refine .of_not c (Int.le_of_lt (h.lt _ ?_ _ ?_))
          · simp [List.getD, show (s - a).toNat - 1 < L.length by omega]
          · simp [List.getD, show (mid - s).toNat < R.length by omega]
  · rcases c2 with c | c
    · rcases f7 with f | f
      · right; left; omega
      · left; omega
    · by_cases e1 : mid = s
      · left; omega
      · by_cases e2 : s - a = L.length
        · right; left; omega
        · right; right
          rw [show (mid + m - 1 - s - m).toNat = (mid - s).toNat - 1 by omega] at c
          exact .of_lt c

theorem TwoOk.part {key : Int → Int} {N : Int} {L R L' R' : List Int} (h : TwoOk key N L R) (hl : L'.Sublist L) (hr : R'.Sublist R) (l0 : 0 < L'.length) (r0 : 0 < R'.length) : TwoOk key N L' R' :=
  ⟨l0, r0, List.Pairwise.sublist hl h.ls, List.Pairwise.sublist hr h.rs, fun x hx y hy => h.lt x (hl.subset hx) y (hr.subset hy), fun x hx => h.ok x (by
    rcases List.mem_append.1 hx with h1 | h1
    · exact List.mem_append_left _ (hl.subset h1)
    · exact List.mem_append_right _ (hr.subset h1))⟩

set_option maxRecDepth 100000 in
set_option maxHeartbeats 16000000 in
theorem symMain {g n cap : Nat} {key : Int → Int} {N : Int} {B K : Nat} (IH : SymSaid g n cap key N B K) (w : World) (P L R S : List Int) (a m b : Int) (hK : L.length + R.length ≤ K) (h : TwoOk key N L R) (hr : IRow w g n cap (P ++ L ++ R ++ S)) (hC : CmpAt key N B g w) (hl1 : 1 < L.length) (hr1 : 1 < R.length)
    (ha : a = P.length) (hm : m = P.length + L.length) (hb : b = P.length + L.length + R.length) (hn : n ≤ 1000000) :
    Calls Tryz.prog 245 #[.slice (some ⟨g, 0, none⟩) n cap, .int .i64 a, .int .i64 m, .int .i64 b, .func (.func 235) #[] #[.pointer (some ⟨B, 0, none⟩)]] w (Sortd w g n cap key P (L ++ R) S) := by
  have hl : P.length + L.length + R.length + S.length = n := by have := hr.len; simp at this; omega
  have HI := Lib.hid IH
  have HT := Lib.hid h
  have HR := Lib.hid hr
  have HC := Lib.hid hC
  have HL := Lib.hid (And.intro ha (And.intro hm (And.intro hb hl)))
  have a0 : 0 ≤ a := by omega
  have am : a + 1 < m := by omega
  have mb : m + 1 < b := by omega
  have bn : b ≤ n := by omega
  have d1 : (m - a == 1) = false := beq_eq_false_iff_ne.2 (by omega)
  have d2 : (b - m == 1) = false := beq_eq_false_iff_ne.2 (by omega)
  clear IH h hr hC ha hm hb hl hl1 hr1
  go_enter Tryz.func245, Tryz.ntmps245
  go_upto_if 140 with (fail)
  go_cut [20, 21] from 141 to 146 (fun s r wx => ∃ s0 r0 : Int, s = .int .i64 s0 ∧ r = .int .i64 r0 ∧ Hid (SymF a m b ((a + b) / 2) s0 r0) ∧ w = wx)
  case first =>
    by_cases hmm : (a + b) / 2 < m
    · go_wp2_with (fail)
      go_meet
      exact ⟨_, _, rfl, rfl, Lib.hid ⟨by omega, by omega, by omega, by omega, by omega, by omega, by omega⟩, rfl⟩
    · go_wp2_with (fail)
      go_meet
      exact ⟨_, _, rfl, rfl, Lib.hid ⟨by omega, by omega, by omega, by omega, by omega, by omega, by omega⟩, rfl⟩
  case rest =>
    obtain ⟨s0, r0, rfl, rfl, HF, rfl⟩ := hcut
    have HMid := Lib.hid (show (a + b) / 2 ≤ b ∧ a ≤ (a + b) / 2 ∧ a + b - 1 ≤ (a + b) / 2 * 2 ∧ (a + b) / 2 * 2 ≤ a + b from by omega)
    have mid0 : a < (a + b) / 2 := by omega
    have mid1 : (a + b) / 2 < b := by omega
    generalize (a + b) / 2 = mid at *
    have q1 := HF.out.a1
    have q2 := HF.out.a2
    have q3 := HF.out.a3
    have HQ := Lib.hid (And.intro HF.out.a4 HF.out.a5)
    go_wp2_with (fail)
    go_loopw [20, 21] (fun s r wr => ∃ s1 r1 : Int, s = .int .i64 s1 ∧ r = .int .i64 r1 ∧ s0 ≤ s1 ∧ s1 ≤ r1 ∧ r1 ≤ r0 ∧ SymC key L R a m (mid + m) s0 r0 s1 r1 ∧ IRow wr g n cap (P ++ L ++ R ++ S) ∧ Wrote (At1 g) w wr) (fun s r _ => (intOf r).toNat - (intOf s).toNat)
    case atStart => exact ⟨s0, r0, rfl, rfl, Int.le_refl _, q2, Int.le_refl _, ⟨.inl rfl, .inl rfl⟩, HR.out, Wrote.refl _ _⟩
    case round =>
      obtain ⟨s1, r1, rfl, rfl, h1, h2, h3, hc, hr, hw⟩ := hrel
      clear HR
      by_cases hlt : s1 < r1
      · have k1 : s1 ≤ (s1 + r1) / 2 := by omega
        have k2 : (s1 + r1) / 2 < r1 := by omega
        obtain ⟨i, hi⟩ : ∃ i, ((s1 + r1) / 2).toNat = i := ⟨_, rfl⟩
        obtain ⟨j, hj⟩ : ∃ j, (mid + m - 1 - (s1 + r1) / 2).toNat = j := ⟨_, rfl⟩
        have z1 : (P.length : Int) ≤ (s1 + r1) / 2 ∧ (s1 + r1) / 2 < P.length + L.length := by have := HL.out; omega
        have z2 : (P.length : Int) + L.length ≤ mid + m - 1 - (s1 + r1) / 2 ∧ mid + m - 1 - (s1 + r1) / 2 < P.length + L.length + R.length := by have := HL.out; have := HQ.out; omega
        have ex : (P ++ L ++ R ++ S).getD i 0 = L.getD ((s1 + r1) / 2 - a).toNat 0 := by
          rw [two_l (by omega) (by omega), show ((s1 + r1) / 2 - a).toNat = i - P.length by have := HL.out; omega]
        have ey : (P ++ L ++ R ++ S).getD j 0 = R.getD (mid + m - 1 - (s1 + r1) / 2 - m).toNat 0 := by
          rw [two_r (by omega) (by omega), show (mid + m - 1 - (s1 + r1) / 2 - m).toNat = j - (P.length + L.length) by have := HL.out; omega]
        have bx : 0 ≤ L.getD ((s1 + r1) / 2 - a).toNat 0 ∧ L.getD ((s1 + r1) / 2 - a).toNat 0 < N := by
          refine HT.out.ok _ (List.mem_append_left _ ?_)
          simp [List.getD, show ((s1 + r1) / 2 - a).toNat < L.length by have := HL.out; omega]
        have bY : 0 ≤ R.getD (mid + m - 1 - (s1 + r1) / 2 - m).toNat 0 ∧ R.getD (mid + m - 1 - (s1 + r1) / 2 - m).toNat 0 < N := by
          refine HT.out.ok _ (List.mem_append_right _ ?_)
          simp [List.getD, show (mid + m - 1 - (s1 + r1) / 2 - m).toNat < R.length by have := HL.out; omega]
        have hin : i < n := by have := HL.out; omega
        have hjn : j < n := by have := HL.out; omega
        have c1 := hr.cell hin
        have c2 := hr.cell hjn
        rw [ex] at c1
        rw [ey] at c2
        have e1 : 0 ≤ (s1 + r1) / 2 := by omega
        have e2 : 0 ≤ mid + m - 1 - (s1 + r1) / 2 := by omega
        have e3 : (s1 + r1) / 2 < n := by omega
        have e4 : mid + m - 1 - (s1 + r1) / 2 < n := by omega
        have e5 : IntKind.i64.wrap (mid + m - 1 - (s1 + r1) / 2) = mid + m - 1 - (s1 + r1) / 2 := by rw [IntKind.wrap_i64]; omega
        have HN := Lib.hid (fun t => And.intro (hr.drewN t) (hw.drewN t))
        have HC2 := Lib.hid (And.intro hc (And.intro h1 h3))
        obtain ⟨x, hx⟩ : ∃ x, L.getD ((s1 + r1) / 2 - a).toNat 0 = x := ⟨_, rfl⟩
        obtain ⟨y, hy⟩ : ∃ y, R.getD (mid + m - 1 - (s1 + r1) / 2 - m).toNat 0 = y := ⟨_, rfl⟩
        rw [hx] at c1 bx
        rw [hy] at c2 bY
        have CD := fun q => Calls.quiet_of (HC.out (wr.drewN q) y x (hw.drewN q) bY.1 bY.2 bx.1 bx.2)
        obtain ⟨c0, hc0⟩ : ∃ c, cmp3 (key y) (key x) = c := ⟨_, rfl⟩
        simp only [hc0] at CD
        have HX := Lib.hid (And.intro hx hy)
        clear ex ey hx hy z1 z2 bx bY hr hw hc h1 h2 h3
        by_cases hky : key y < key x
        · have d3 : c0 < 0 := by rw [← hc0]; exact cmp3_lt hky
          have d4 : decide (c0 < 0) = true := by simp [d3]
          have HK := Lib.hid (show SymC key L R a m (mid + m) s0 r0 s1 ((s1 + r1) / 2) from ⟨HC2.out.1.1, .inr (by rw [HX.out.1, HX.out.2]; exact hky)⟩)
          clear hc0 hky
          go_wp2_with (fail)
          generalize (s1 + r1) / 2 = cc at *
          go_quiet ((go_at_call 235; exact CD _))
          clear CD c1 c2 e5 hi hj
          go_wp2
          go_roundw
          case rel => exact ⟨s1, cc, rfl, rfl, HC2.out.2.1, k1, by have := HC2.out.2.2; omega, HK.out, (HN.out _).1, (HN.out _).2⟩
          case measure => simp [intOf]; omega
        · have d3 : ¬ c0 < 0 := by rw [← hc0]; have := cmp3_ge hky; omega
          have d4 : decide (c0 < 0) = false := by simp; omega
          have HK := Lib.hid (show SymC key L R a m (mid + m) s0 r0 ((s1 + r1) / 2 + 1) r1 from ⟨.inr (by rw [show mid + m - ((s1 + r1) / 2 + 1) - m = mid + m - 1 - (s1 + r1) / 2 - m by omega, show (s1 + r1) / 2 + 1 - 1 - a = (s1 + r1) / 2 - a by omega, HX.out.1, HX.out.2]; exact hky), HC2.out.1.2⟩)
          clear hc0 hky
          go_wp2_with (fail)
          generalize (s1 + r1) / 2 = cc at *
          go_quiet ((go_at_call 235; exact CD _))
          clear CD c1 c2 e5 hi hj
          go_wp2
          go_roundw
          case rel => exact ⟨cc + 1, r1, by go_num, rfl, by have := HC2.out.2.1; omega, by omega, HC2.out.2.2, HK.out, (HN.out _).1, (HN.out _).2⟩
          case measure => simp [intOf]; omega
      · obtain rfl : s1 = r1 := by omega
        have hcut := sym_cut HT.out HF.out (by have := HL.out; omega) (by have := HL.out; omega) h1 h3 hc
        have w1 : a ≤ s1 := by omega
        have w2 : s1 ≤ m := by omega
        have w3 : s1 ≤ mid := by have := HQ.out; omega
        have w4 : mid + m - s1 ≤ b := by have := HQ.out; omega
        obtain ⟨sl, hsl⟩ : ∃ x, (s1 - a).toNat = x := ⟨_, rfl⟩
        obtain ⟨er, her⟩ : ∃ x, (mid - s1).toNat = x := ⟨_, rfl⟩
        rw [hsl, her] at hcut
        have HCut := Lib.hid hcut
        have sL : sl ≤ L.length := by have := HL.out; omega
        have eR : er ≤ R.length := by have := HL.out; omega
        obtain ⟨L1, hL1⟩ : ∃ x, L.take sl = x := ⟨_, rfl⟩
        obtain ⟨L2, hL2⟩ : ∃ x, L.drop sl = x := ⟨_, rfl⟩
        obtain ⟨R1, hR1⟩ : ∃ x, R.take er = x := ⟨_, rfl⟩
        obtain ⟨R2, hR2⟩ : ∃ x, R.drop er = x := ⟨_, rfl⟩
        have eL : L1 ++ L2 = L := by rw [← hL1, ← hL2]; exact List.take_append_drop _ _
        have eRR : R1 ++ R2 = R := by rw [← hR1, ← hR2]; exact List.take_append_drop _ _
        have nL1 : L1.length = sl := by rw [← hL1]; simp; omega
        have nR1 : R1.length = er := by rw [← hR1]; simp; omega
        have nL2 : L2.length = L.length - sl := by rw [← hL2]; simp
        have nR2 : R2.length = R.length - er := by rw [← hR2]; simp
        have HR := Lib.hid (show IRow wr g n cap (P ++ L1 ++ L2 ++ R1 ++ (R2 ++ S)) by rw [← eL, ← eRR] at hr; simpa using hr)
        have HW := Lib.hid hw
        have sub1 : L1.Sublist L := by rw [← hL1]; exact List.take_sublist _ _
        have sub2 : L2.Sublist L := by rw [← hL2]; exact List.drop_sublist _ _
        have sub3 : R1.Sublist R := by rw [← hR1]; exact List.take_sublist _ _
        have sub4 : R2.Sublist R := by rw [← hR2]; exact List.drop_sublist _ _
        have HNum := Lib.hid (And.intro hsl (And.intro her (And.intro nL1 (And.intro nR1 (And.intro nL2 (And.intro nR2 HL.out))))))
        have HEq := Lib.hid (And.intro (And.intro hL1 hL2) (And.intro hR1 hR2))
        clear hcut hc h1 h2 h3 hsl her hL1 hL2 hR1 hR2 eL eRR nL1 nR1 nL2 nR2 hr hw hlt q1 q2 q3
        go_upto_region 39 with (fail)
        go_cut [185] from 178 to 185 (fun t wx => ∃ bt : Bool, t = .bool bt ∧ Hid (bt = true ↔ (s1 < m ∧ m < mid + m - s1)) ∧ wr = wx)
        case first =>
          by_cases hA : s1 < m
          · by_cases hB : m < mid + m - s1
            · go_wp2_with (fail)
              go_meet
              exact ⟨true, rfl, Lib.hid ⟨fun _ => ⟨hA, hB⟩, fun _ => rfl⟩, rfl⟩
            · go_wp2_with (fail)
              go_meet
              exact ⟨false, rfl, Lib.hid ⟨(fun h => by cases h), (fun h => by exfalso; omega)⟩, rfl⟩
          · go_wp2_with (fail)
            go_meet
            exact ⟨false, rfl, Lib.hid ⟨(fun h => by cases h), (fun h => by exfalso; omega)⟩, rfl⟩
        case' rest => obtain ⟨bt, rfl, HB, rfl⟩ := hcut
        go_upto_if 185 with (fail)
        go_cut [185] from 186 to 191 (fun s wx => IRow wx g n cap (P ++ L1 ++ R1 ++ (L2 ++ R2 ++ S)) ∧ Wrote (At1 g) w wx)
        case first =>
          cases bt with
          | true =>
            obtain ⟨hA1, hA2⟩ := HB.out.1 rfl
            have C := rotateRow wr g n cap (P ++ L1) L2 R1 (R2 ++ S) s1 m (mid + m - s1) (.func (.func 235) #[] #[.pointer (some ⟨B, 0, none⟩)]) (by simpa using HR.out) (by have := HNum.out; omega) (by have := HNum.out; omega) (by have := HNum.out; simp; omega) (by have := HNum.out; simp; omega) (by have := HNum.out; simp; omega) hn
            have HC3 := Lib.hid C
            clear C
            go_wp2_with (fail)
            refine HC3.out.mono ?_
            rintro e w5 ⟨rfl, r5, h5⟩
            have HR5 := Lib.hid (And.intro r5 (HW.out.trans h5))
            clear r5 h5 HC3
            go_wp2_with (fail)
            go_meet
            exact ⟨by simpa using HR5.out.1, HR5.out.2⟩
          | false =>
            have HR5 := Lib.hid (show IRow wr g n cap (P ++ L1 ++ R1 ++ (L2 ++ R2 ++ S)) ∧ Wrote (At1 g) w wr from by
              refine ⟨?_, HW.out⟩
              have h0 : L2 = [] ∨ R1 = [] := by
                have := HNum.out
                by_cases h1 : s1 < m
                · right
                  have h3 : ¬ m < mid + m - s1 := fun h => by have := HB.out.2 ⟨h1, h⟩; cases this
                  exact List.eq_nil_of_length_eq_zero (by omega)
                · left; exact List.eq_nil_of_length_eq_zero (by omega)
              rcases h0 with h0 | h0
              · have := HR.out; rw [h0] at this ⊢; simpa using this
              · have := HR.out; rw [h0] at this ⊢; simpa using this)
            go_wp2_with (fail)
            go_meet
            exact HR5.out
        case' rest => skip
        obtain ⟨hr3, hw3⟩ := hcut
        have HR3 := Lib.hid hr3
        have HW3 := Lib.hid hw3
        clear hr3 hw3 HR HW HB
        go_upto_region 41 with (fail)
        go_cut [199] from 192 to 199 (fun t wx => ∃ bt : Bool, t = .bool bt ∧ Hid (bt = true ↔ (a < s1 ∧ s1 < mid)) ∧ wc = wx)
        case first =>
          by_cases hA : a < s1
          · by_cases hB : s1 < mid
            · go_wp2_with (fail)
              go_meet
              exact ⟨true, rfl, Lib.hid ⟨fun _ => ⟨hA, hB⟩, fun _ => rfl⟩, rfl⟩
            · go_wp2_with (fail)
              go_meet
              exact ⟨false, rfl, Lib.hid ⟨(fun h => by cases h), (fun h => by exfalso; omega)⟩, rfl⟩
          · go_wp2_with (fail)
            go_meet
            exact ⟨false, rfl, Lib.hid ⟨(fun h => by cases h), (fun h => by exfalso; omega)⟩, rfl⟩
        case' rest => obtain ⟨bt, rfl, HB, rfl⟩ := hcut
        go_upto_if 199 with (fail)
        go_cut [199] from 200 to 205 (fun s wx => ∃ M1 : List Int, M1.Perm (L1 ++ R1) ∧ Srt key M1 ∧ IRow wx g n cap (P ++ M1 ++ (L2 ++ R2 ++ S)) ∧ Wrote (At1 g) w wx)
        case first =>
          cases bt with
          | true =>
            obtain ⟨hA1, hA2⟩ := HB.out.1 rfl
            have C := HI.out wc P L1 R1 (L2 ++ R2 ++ S) a s1 mid (by have := HNum.out; omega) (HT.out.part sub1 sub3 (by have := HNum.out; omega) (by have := HNum.out; omega)) HR3.out (HC.out.later HW3.out) (by have := HNum.out; omega) (by have := HNum.out; omega) (by have := HNum.out; omega)
            have HC3 := Lib.hid C
            clear C
            go_wp2_with (fail)
            refine HC3.out.mono ?_
            rintro e w5 ⟨rfl, M1, p5, s5, r5, h5⟩
            have HR5 := Lib.hid (And.intro p5 (And.intro s5 (And.intro r5 (HW3.out.trans h5))))
            clear p5 s5 r5 h5 HC3
            go_wp2_with (fail)
            go_meet
            exact ⟨M1, HR5.out⟩
          | false =>
            have HR5 := Lib.hid (show ∃ M1 : List Int, M1.Perm (L1 ++ R1) ∧ Srt key M1 ∧ IRow wc g n cap (P ++ M1 ++ (L2 ++ R2 ++ S)) ∧ Wrote (At1 g) w wc from by
              refine ⟨L1 ++ R1, List.Perm.refl _, ?_, by simpa using HR3.out, HW3.out⟩
              have h0 : L1 = [] ∨ R1 = [] := by
                have := HNum.out
                by_cases h1 : a < s1
                · right
                  have h3 : ¬ s1 < mid := fun h => by have := HB.out.2 ⟨h1, h⟩; cases this
                  exact List.eq_nil_of_length_eq_zero (by omega)
                · left; exact List.eq_nil_of_length_eq_zero (by omega)
              rcases h0 with h0 | h0
              · rw [h0, List.nil_append]; exact List.Pairwise.sublist sub3 HT.out.rs
              · rw [h0, List.append_nil]; exact List.Pairwise.sublist sub1 HT.out.ls)
            go_wp2_with (fail)
            go_meet
            exact HR5.out
        case' rest => skip
        obtain ⟨M1, p1, s1s, hr4, hw4⟩ := hcut
        have HR4 := Lib.hid hr4
        have HW4 := Lib.hid hw4
        have HP4 := Lib.hid (And.intro p1 (And.intro s1s (p1.length_eq)))
        clear hr4 hw4 p1 s1s HR3 HW3 HB
        have FIN : ∀ (M2 : List Int) (wx : World), M2.Perm (L2 ++ R2) → Srt key M2 → IRow wx g n cap (P ++ M1 ++ M2 ++ S) → Wrote (At1 g) w wx → Sortd w g n cap key P (L ++ R) S (.returned (.tuple #[])) wx := fun M2 wx p2 s2 r2 h2 => by
          obtain ⟨⟨e1, e2⟩, e3, e4⟩ := HEq.out
          have hh := merged_halves HT.out.ls HT.out.rs sL eR HCut.out.1 HCut.out.2 (by rw [e1, e3]; exact HP4.out.1) (by rw [e2, e4]; exact p2) HP4.out.2.1 s2
          exact ⟨rfl, M1 ++ M2, hh.1, hh.2, by simpa using r2, h2⟩
        have HFIN := Lib.hid FIN
        clear FIN
        go_upto_region 43 with (fail)
        go_cut [213] from 206 to 213 (fun t wx => ∃ bt : Bool, t = .bool bt ∧ Hid (bt = true ↔ (mid < mid + m - s1 ∧ mid + m - s1 < b)) ∧ wc = wx)
        case first =>
          by_cases hA : mid < mid + m - s1
          · by_cases hB : mid + m - s1 < b
            · go_wp2_with (fail)
              go_meet
              exact ⟨true, rfl, Lib.hid ⟨fun _ => ⟨hA, hB⟩, fun _ => rfl⟩, rfl⟩
            · go_wp2_with (fail)
              go_meet
              exact ⟨false, rfl, Lib.hid ⟨(fun h => by cases h), (fun h => by exfalso; omega)⟩, rfl⟩
          · go_wp2_with (fail)
            go_meet
            exact ⟨false, rfl, Lib.hid ⟨(fun h => by cases h), (fun h => by exfalso; omega)⟩, rfl⟩
        case' rest => obtain ⟨bt, rfl, HB, rfl⟩ := hcut
        cases bt with
        | true =>
          obtain ⟨hA1, hA2⟩ := HB.out.1 rfl
          have C := HI.out wc (P ++ M1) L2 R2 S mid (mid + m - s1) b (by have := HNum.out; omega) (HT.out.part sub2 sub4 (by have := HNum.out; omega) (by have := HNum.out; omega)) (by simpa using HR4.out) (HC.out.later HW4.out) (by have := HNum.out; have := HP4.out.2.2; simp at this ⊢; omega) (by have := HNum.out; have := HP4.out.2.2; simp at this ⊢; omega) (by have := HNum.out; have := HP4.out.2.2; simp at this ⊢; omega)
          have HC3 := Lib.hid C
          clear C
          go_wp2_with (fail)
          refine HC3.out.mono ?_
          rintro e w5 ⟨rfl, M2, p5, s5, r5, h5⟩
          have HR5 := Lib.hid (HFIN.out M2 w5 p5 s5 r5 (HW4.out.trans h5))
          clear p5 s5 r5 h5 HC3
          go_wp2
          go_end0
          exact HR5.out
        | false =>
          have HR5 := Lib.hid (show Sortd w g n cap key P (L ++ R) S (.returned (.tuple #[])) wc from by
            refine HFIN.out (L2 ++ R2) wc (List.Perm.refl _) ?_ (by simpa using HR4.out) HW4.out
            have h0 : L2 = [] ∨ R2 = [] := by
              have := HNum.out
              by_cases h1 : mid < mid + m - s1
              · right
                have h3 : ¬ mid + m - s1 < b := fun h => by have := HB.out.2 ⟨h1, h⟩; cases this
                exact List.eq_nil_of_length_eq_zero (by omega)
              · left; exact List.eq_nil_of_length_eq_zero (by omega)
            rcases h0 with h0 | h0
            · rw [h0, List.nil_append]; exact List.Pairwise.sublist sub4 HT.out.rs
            · rw [h0, List.append_nil]; exact List.Pairwise.sublist sub2 HT.out.ls)
          go_wp2
          go_end0
          exact HR5.out

end Go.Proofs.YtkbhemaijbkpbaaGreat
namespace Go.Proofs.YtkbhemaijbkpbaaGreat
open Go.RowKit

theorem insRow_up {P M R : List Int} {x : Int} {e : Nat} (he : e < M.length) :
    ((insRow P M x e R).set (P.length + e) (M.getD e 0)).set (P.length + e + 1) x = insRow P M x (e + 1) R ∧ (insRow P M x e R).getD (P.length + e) 0 = x ∧ (insRow P M x e R).getD (P.length + e + 1) 0 = M.getD e 0 := by
  have ea : M.drop e = M.getD e 0 :: M.drop (e + 1) := by rw [List.drop_eq_getElem_cons he]; simp [List.getD, he]
  have ta : M.take (e + 1) = M.take e ++ [M.getD e 0] := by rw [List.take_succ_eq_append_getElem he]; simp [List.getD, he]
  have l1 : (P ++ M.take e).length = P.length + e := by simp; omega
  have r1 : insRow P M x (e + 1) R = (P ++ M.take e) ++ M.getD e 0 :: x :: (M.drop (e + 1) ++ R) := by unfold insRow; rw [ta]; simp
  have r0 : insRow P M x e R = (P ++ M.take e) ++ x :: M.getD e 0 :: (M.drop (e + 1) ++ R) := by unfold insRow; rw [ea]; simp
  have h := exch1 (P ++ M.take e) (M.drop (e + 1) ++ R) x (M.getD e 0)
  have h2 := getD_head (P ++ M.take e) (M.getD e 0 :: (M.drop (e + 1) ++ R)) x
  have h3 := getD_at (P ++ M.take e) (x :: M.getD e 0 :: (M.drop (e + 1) ++ R)) 1
  rw [l1] at h h2 h3
  rw [r1, r0]
  exact ⟨h, h2, by simpa using h3⟩

/-- Where the search for the place of x among M stands: before is less, behind is not. -/
def SeekL (key : Int → Int) (M : List Int) (x : Int) (i j : Nat) : Prop := (i = 0 ∨ key (M.getD (i - 1) 0) < key x) ∧ (j = M.length ∨ ¬ key (M.getD j 0) < key x)
/-- Before is not greater, behind is. -/
def SeekR (key : Int → Int) (M : List Int) (x : Int) (i j : Nat) : Prop := (i = 0 ∨ ¬ key x < key (M.getD (i - 1) 0)) ∧ (j = M.length ∨ key x < key (M.getD j 0))

def Ins1Rel (w : World) (g n cap : Nat) (P M : List Int) (x : Int) (S : List Int) (e : Nat) (wr : World) : Prop := IRow wr g n cap (insRow P M x e S) ∧ Wrote (At1 g) w wr

set_option maxRecDepth 100000 in
set_option maxHeartbeats 16000000 in
theorem symLeft (w : World) {g n cap : Nat} {key : Int → Int} {N : Int} {B : Nat} (P R S : List Int) (x : Int) (a m b : Int) (h : IRow w g n cap (P ++ [x] ++ R ++ S)) (hC : CmpAt key N B g w) (hs : Srt key R) (hlt : ∀ y ∈ R, x < y) (hok : ∀ y ∈ x :: R, 0 ≤ y ∧ y < N)
    (ha : a = P.length) (hm : m = P.length + 1) (hb : b = P.length + 1 + R.length) (hn : n ≤ 1000000) :
    Calls Tryz.prog 245 #[.slice (some ⟨g, 0, none⟩) n cap, .int .i64 a, .int .i64 m, .int .i64 b, .func (.func 235) #[] #[.pointer (some ⟨B, 0, none⟩)]] w (Sortd w g n cap key P (x :: R) S) := by
  have hl : P.length + 1 + R.length + S.length = n := by have := h.len; simp at this; omega
  have hr0 : IRow w g n cap (insRow P R x 0 S) := by unfold insRow; simpa using h
  have HC := Lib.hid hC
  have HL := Lib.hid (And.intro ha (And.intro hm (And.intro hb hl)))
  have HS := Lib.hid (And.intro hs (And.intro hlt hok))
  have HR := Lib.hid hr0
  have a0 : 0 ≤ a := by omega
  have am : a < m := by omega
  have mb : m ≤ b := by omega
  have bn : b ≤ n := by omega
  have d1 : (m - a == 1) = true := beq_iff_eq.2 (by omega)
  have an : a < n := by omega
  have mn : m ≤ n := by omega
  clear h hr0 hC hs hlt hok ha hm hb hl
  go_enter Tryz.func245, Tryz.ntmps245
  go_wp2_with (fail)
  go_loopw [10, 11] (fun iv jv wr => ∃ (iz jz : Int) (i j : Nat), iv = .int .i64 iz ∧ jv = .int .i64 jz ∧ iz = P.length + 1 + i ∧ jz = P.length + 1 + j ∧ i ≤ j ∧ j ≤ R.length ∧ SeekL key R x i j ∧ Ins1Rel w g n cap P R x S 0 wr) (fun iv jv _ => (intOf jv).toNat - (intOf iv).toNat)
  case atStart => exact ⟨m, b, 0, R.length, rfl, rfl, by have := HL.out; omega, by have := HL.out; omega, Nat.zero_le _, Nat.le_refl _, ⟨.inl rfl, .inl rfl⟩, HR.out, Wrote.refl _ _⟩
  case round =>
    obtain ⟨iz, jz, i, j, rfl, rfl, hiz, hjz, hij, hjl, hsk, hr, hw⟩ := hrel
    clear HR
    by_cases hlt : i < j
    · have z1 : iz < jz := by omega
      have z2 : iz ≤ (iz + jz) / 2 := by omega
      have z3 : (iz + jz) / 2 < jz := by omega
      obtain ⟨h, hh⟩ : ∃ h : Nat, (iz + jz) / 2 = P.length + 1 + h := ⟨((iz + jz) / 2).toNat - (P.length + 1), by omega⟩
      obtain ⟨p, hp⟩ : ∃ p, P.length = p := ⟨_, rfl⟩
      obtain ⟨q, hq⟩ : ∃ q, P.length + 1 + h = q := ⟨_, rfl⟩
      have c1 := hr.cell (i := p) (by have := HL.out; omega)
      have c2 := hr.cell (i := q) (by have := HL.out; omega)
      have ec1 : (insRow P R x 0 S).getD p 0 = x := by rw [← hp]; unfold insRow; simp
      have ec2 : (insRow P R x 0 S).getD q 0 = R.getD h 0 := by
        have e : insRow P R x 0 S = (P ++ [x]) ++ (R ++ S) := by unfold insRow; simp
        rw [e, ← hq, show P.length + 1 + h = (P ++ [x]).length + h by simp, getD_at, getD_left _ _ _ (by omega)]
      rw [ec1] at c1
      rw [ec2] at c2
      have bx := HS.out.2.2 x (by simp)
      have bY := HS.out.2.2 (R.getD h 0) (List.mem_cons_of_mem _ (by simp [List.getD, show h < R.length by omega]))
      have CD := fun q => Calls.quiet_of (HC.out (wr.drewN q) (R.getD h 0) x (hw.drewN q) bY.1 bY.2 bx.1 bx.2)
      obtain ⟨c0, hc0⟩ : ∃ c, cmp3 (key (R.getD h 0)) (key x) = c := ⟨_, rfl⟩
      simp only [hc0] at CD
      have HN := Lib.hid (fun t => And.intro (hr.drewN t) (hw.drewN t))
      have HQ := Lib.hid (And.intro hsk (And.intro hiz (And.intro hjz (And.intro hh (And.intro hij hjl)))))
      have e1 : ((iz + jz) / 2).toNat = q := by omega
      have e2 : 0 ≤ (iz + jz) / 2 := by omega
      have e3 : (iz + jz) / 2 < n := by have := HL.out; omega
      have e4 : a.toNat = p := by have := HL.out; omega
      have hhj : h < j := by omega
      have hih : i ≤ h := by omega
      have i0 : 0 ≤ iz := by omega
      have jn : jz ≤ n := by have := HL.out; omega
      clear ec1 ec2 hsk hr hw bx bY hp hq hiz hjz hh hlt hij hjl
      by_cases hky : key (R.getD h 0) < key x
      · have d3 : c0 < 0 := by rw [← hc0]; exact cmp3_lt hky
        have d4 : decide (c0 < 0) = true := by simp [d3]
        have HK := Lib.hid (show SeekL key R x (h + 1) j from ⟨.inr hky, HQ.out.1.2⟩)
        clear hc0 hky
        generalize R.getD h 0 = y at *
        go_wp2_with (fail)
        generalize (iz + jz) / 2 = cc at *
        go_quiet ((go_at_call 235; exact CD _))
        clear CD c1 c2 e1 e4
        go_wp2
        go_roundw
        case rel => exact ⟨cc + 1, jz, h + 1, j, by go_num, rfl, by have := HQ.out; omega, HQ.out.2.2.1, by omega, HQ.out.2.2.2.2.2, HK.out, (HN.out _).1, (HN.out _).2⟩
        case measure => simp [intOf]; omega
      · have d3 : ¬ c0 < 0 := by rw [← hc0]; have := cmp3_ge hky; omega
        have d4 : decide (c0 < 0) = false := by simp; omega
        have HK := Lib.hid (show SeekL key R x i h from ⟨HQ.out.1.1, .inr hky⟩)
        clear hc0 hky
        generalize R.getD h 0 = y at *
        go_wp2_with (fail)
        generalize (iz + jz) / 2 = cc at *
        go_quiet ((go_at_call 235; exact CD _))
        clear CD c1 c2 e1 e4
        go_wp2
        go_roundw
        case rel => exact ⟨iz, cc, i, h, rfl, rfl, HQ.out.2.1, HQ.out.2.2.2.1, hih, by have := HQ.out; omega, HK.out, (HN.out _).1, (HN.out _).2⟩
        case measure => simp [intOf]; omega
    · obtain rfl : i = j := by omega
      obtain rfl : iz = jz := by omega
      have HF := Lib.hid (show ∀ wx, Ins1Rel w g n cap P R x S i wx → Sortd w g n cap key P (x :: R) S (.returned (.tuple #[])) wx from fun wx hx => by
        have hh := merged_front HS.out.1 hjl (x := x) (by rcases hsk.1 with h1 | h1; exact .inl h1; exact .inr (.of_lt h1)) (by
          rcases hsk.2 with h1 | h1
          · exact .inl h1
          · rcases Nat.lt_or_ge i R.length with h2 | h2
            · exact .inr (.of_not h1 (Int.le_of_lt (HS.out.2.1 _ (by simp [List.getD, h2]))))
            · exact .inl (by omega))
        exact ⟨rfl, _, hh.1, hh.2, hx.1, hx.2⟩)
      have HI := Lib.hid (And.intro hiz hjl)
      have HR := Lib.hid (show Ins1Rel w g n cap P R x S 0 wr from ⟨hr, hw⟩)
      have i0 : 0 < iz := by omega
      have i1 : iz ≤ n := by have := HL.out; omega
      clear hiz hjz hjl hsk hr hw hij hlt
      generalize wr = wo at *
      go_wp2_with (fail)
      go_loopw [13] (fun kv wr => ∃ (kz : Int) (e : Nat), kv = .int .i64 kz ∧ kz = P.length + e ∧ e ≤ i ∧ Ins1Rel w g n cap P R x S e wr) (fun kv _ => iz.toNat - (intOf kv).toNat)
      case atStart => exact ⟨a, 0, rfl, by have := HL.out; omega, Nat.zero_le _, HR.out⟩
      case round =>
        obtain ⟨kz, e, rfl, hkz, hei, hr, hw⟩ := hrel
        clear HR
        by_cases hlt : e < i
        · have hst := insRow_up (P := P) (M := R) (R := S) (x := x) (e := e) (by have := HI.out; omega)
          obtain ⟨p, hp⟩ : ∃ p, P.length + e = p := ⟨_, rfl⟩
          obtain ⟨q, hq⟩ : ∃ q, P.length + e + 1 = q := ⟨_, rfl⟩
          obtain ⟨y, hy⟩ : ∃ y, R.getD e 0 = y := ⟨_, rfl⟩
          rw [hq, hp, hy] at hst
          have pn : p < n := by have := HL.out; have := HI.out; omega
          have qn : q < n := by have := HL.out; have := HI.out; omega
          have c1 := hr.cell pn
          have c2 := hr.cell qn
          rw [hst.2.1] at c1
          rw [hst.2.2] at c2
          have f1 := hr.free p
          have f2 := hr.free q
          obtain ⟨u, c3⟩ := hr.still pn qn y
          have HN := Lib.hid (hr.swap p q y x)
          have HV := Lib.hid (hw.trans (wrote_swap wr g p q (.int .i64 y) (.int .i64 x)))
          have k1 : kz < iz - 1 := by have := HI.out; omega
          have k0 : 0 ≤ kz := by omega
          have e1 : kz.toNat = p := by omega
          have e2 : (kz + 1).toNat = q := by omega
          have e3 : IntKind.i64.wrap (kz + 1) = kz + 1 := by rw [IntKind.wrap_i64]; omega
          have e4 : 0 ≤ kz + 1 := by omega
          have e5 : kz < n := by omega
          have e6 : kz + 1 < n := by omega
          have HK := Lib.hid (And.intro hst (And.intro hkz hlt))
          clear hst hr hw hkz hei hlt hp hq hy
          go_wp2_with fail
          go_big_region
          clear c1 c2 c3 f1 f2 e1 e2 e3
          generalize ((wr.setCell ⟨g, p, none⟩ (.int .i64 y)).setCell ⟨g, q, none⟩ (.int .i64 x)).drew = w3 at *
          go_wp2
          go_roundw
          case rel => exact ⟨kz + 1, e + 1, by go_num, by have := HK.out; omega, by have := HK.out; omega, by rw [← HK.out.1.1]; exact HN.out, HV.out⟩
          case measure => simp [intOf]; omega
        · obtain rfl : e = i := by omega
          have k1 : ¬ kz < iz - 1 := by have := HI.out; omega
          have HE := Lib.hid (HF.out wr ⟨hr, hw⟩)
          clear hkz hei hr hw hlt
          go_wp2
          go_end0
          exact HE.out


set_option maxRecDepth 100000 in
set_option maxHeartbeats 16000000 in
theorem symRight (w : World) {g n cap : Nat} {key : Int → Int} {N : Int} {B : Nat} (P R S : List Int) (x : Int) (a m b : Int) (h : IRow w g n cap (P ++ R ++ [x] ++ S)) (hC : CmpAt key N B g w) (hs : Srt key R) (hlt : ∀ y ∈ R, y < x) (hl2 : 1 < R.length) (hok : ∀ y ∈ x :: R, 0 ≤ y ∧ y < N)
    (ha : a = P.length) (hm : m = P.length + R.length) (hb : b = P.length + R.length + 1) (hn : n ≤ 1000000) :
    Calls Tryz.prog 245 #[.slice (some ⟨g, 0, none⟩) n cap, .int .i64 a, .int .i64 m, .int .i64 b, .func (.func 235) #[] #[.pointer (some ⟨B, 0, none⟩)]] w (Sortd w g n cap key P (R ++ [x]) S) := by
  have hl : P.length + R.length + 1 + S.length = n := by have := h.len; simp at this; omega
  have hr0 : IRow w g n cap (insRow P R x R.length S) := by rw [insRow_end]; simpa using h
  have HC := Lib.hid hC
  have HL := Lib.hid (And.intro ha (And.intro hm (And.intro hb hl)))
  have HS := Lib.hid (And.intro hs (And.intro hlt hok))
  have HR := Lib.hid hr0
  have a0 : 0 ≤ a := by omega
  have am : a < m := by omega
  have mb : m < b := by omega
  have bn : b ≤ n := by omega
  have d1 : (m - a == 1) = false := beq_eq_false_iff_ne.2 (by omega)
  have d2 : (b - m == 1) = true := beq_iff_eq.2 (by omega)
  have mn : m < n := by omega
  clear h hr0 hC hs hlt hok ha hm hb hl hl2
  go_enter Tryz.func245, Tryz.ntmps245
  go_wp2_with (fail)
  go_loopw [14, 15] (fun iv jv wr => ∃ (iz jz : Int) (i j : Nat), iv = .int .i64 iz ∧ jv = .int .i64 jz ∧ iz = P.length + i ∧ jz = P.length + j ∧ i ≤ j ∧ j ≤ R.length ∧ SeekR key R x i j ∧ Ins1Rel w g n cap P R x S R.length wr) (fun iv jv _ => (intOf jv).toNat - (intOf iv).toNat)
  case atStart => exact ⟨a, m, 0, R.length, rfl, rfl, by have := HL.out; omega, by have := HL.out; omega, Nat.zero_le _, Nat.le_refl _, ⟨.inl rfl, .inl rfl⟩, HR.out, Wrote.refl _ _⟩
  case round =>
    obtain ⟨iz, jz, i, j, rfl, rfl, hiz, hjz, hij, hjl, hsk, hr, hw⟩ := hrel
    clear HR
    by_cases hlt : i < j
    · have z1 : iz < jz := by omega
      have z2 : iz ≤ (iz + jz) / 2 := by omega
      have z3 : (iz + jz) / 2 < jz := by omega
      obtain ⟨h, hh⟩ : ∃ h : Nat, (iz + jz) / 2 = P.length + h := ⟨((iz + jz) / 2).toNat - P.length, by omega⟩
      obtain ⟨p, hp⟩ : ∃ p, P.length + R.length = p := ⟨_, rfl⟩
      obtain ⟨q, hq⟩ : ∃ q, P.length + h = q := ⟨_, rfl⟩
      have c1 := hr.cell (i := p) (by have := HL.out; omega)
      have c2 := hr.cell (i := q) (by have := HL.out; omega)
      have ec1 : (insRow P R x R.length S).getD p 0 = x := by rw [insRow_end, ← hp, show P.length + R.length = (P ++ R).length by simp]; exact getD_head _ _ _
      have ec2 : (insRow P R x R.length S).getD q 0 = R.getD h 0 := by rw [insRow_end, List.append_assoc, ← hq, getD_at, getD_left _ _ _ (by omega)]
      rw [ec1] at c1
      rw [ec2] at c2
      have bx := HS.out.2.2 x (by simp)
      have bY := HS.out.2.2 (R.getD h 0) (List.mem_cons_of_mem _ (by simp [List.getD, show h < R.length by omega]))
      have CD := fun q => Calls.quiet_of (HC.out (wr.drewN q) x (R.getD h 0) (hw.drewN q) bx.1 bx.2 bY.1 bY.2)
      obtain ⟨c0, hc0⟩ : ∃ c, cmp3 (key x) (key (R.getD h 0)) = c := ⟨_, rfl⟩
      simp only [hc0] at CD
      have HN := Lib.hid (fun t => And.intro (hr.drewN t) (hw.drewN t))
      have HQ := Lib.hid (And.intro hsk (And.intro hiz (And.intro hjz (And.intro hh (And.intro hij hjl)))))
      have e1 : ((iz + jz) / 2).toNat = q := by omega
      have e2 : 0 ≤ (iz + jz) / 2 := by omega
      have e3 : (iz + jz) / 2 < n := by have := HL.out; omega
      have e4 : m.toNat = p := by have := HL.out; omega
      have hhj : h < j := by omega
      have hih : i ≤ h := by omega
      have i0 : 0 ≤ iz := by omega
      have jn : jz ≤ n := by have := HL.out; omega
      clear ec1 ec2 hsk hr hw bx bY hp hq hiz hjz hh hlt hij hjl
      by_cases hky : key x < key (R.getD h 0)
      · have d3 : c0 < 0 := by rw [← hc0]; exact cmp3_lt hky
        have d4 : decide (c0 < 0) = true := by simp [d3]
        have HK := Lib.hid (show SeekR key R x i h from ⟨HQ.out.1.1, .inr hky⟩)
        clear hc0 hky
        generalize R.getD h 0 = y at *
        go_wp2_with (fail)
        generalize (iz + jz) / 2 = cc at *
        go_quiet ((go_at_call 235; exact CD _))
        clear CD c1 c2 e1 e4
        go_wp2
        go_roundw
        case rel => exact ⟨iz, cc, i, h, rfl, rfl, HQ.out.2.1, HQ.out.2.2.2.1, hih, by have := HQ.out; omega, HK.out, (HN.out _).1, (HN.out _).2⟩
        case measure => simp [intOf]; omega
      · have d3 : ¬ c0 < 0 := by rw [← hc0]; have := cmp3_ge hky; omega
        have d4 : decide (c0 < 0) = false := by simp; omega
        have HK := Lib.hid (show SeekR key R x (h + 1) j from ⟨.inr hky, HQ.out.1.2⟩)
        clear hc0 hky
        generalize R.getD h 0 = y at *
        go_wp2_with (fail)
        generalize (iz + jz) / 2 = cc at *
        go_quiet ((go_at_call 235; exact CD _))
        clear CD c1 c2 e1 e4
        go_wp2
        go_roundw
        case rel => exact ⟨cc + 1, jz, h + 1, j, by go_num, rfl, by have := HQ.out; omega, HQ.out.2.2.1, by omega, HQ.out.2.2.2.2.2, HK.out, (HN.out _).1, (HN.out _).2⟩
        case measure => simp [intOf]; omega
    · obtain rfl : i = j := by omega
      obtain rfl : iz = jz := by omega
      have HF := Lib.hid (show ∀ wx, Ins1Rel w g n cap P R x S i wx → Sortd w g n cap key P (R ++ [x]) S (.returned (.tuple #[])) wx from fun wx hx => by
        have hh := merged_front HS.out.1 hjl (x := x) (by
          rcases hsk.1 with h1 | h1
          · exact .inl h1
          · rcases Nat.eq_zero_or_pos i with h2 | h2
            · exact .inl h2
            · exact .inr (.of_not h1 (Int.le_of_lt (HS.out.2.1 _ (by simp [List.getD, show i - 1 < R.length by omega]))))) (by rcases hsk.2 with h1 | h1; exact .inl h1; exact .inr (.of_lt h1))
        exact ⟨rfl, _, hh.1.trans (List.perm_append_singleton x R).symm, hh.2, hx.1, hx.2⟩)
      have HI := Lib.hid (And.intro hiz hjl)
      have HR := Lib.hid (show Ins1Rel w g n cap P R x S R.length wr from ⟨hr, hw⟩)
      have i0 : 0 ≤ iz := by omega
      have i1 : iz ≤ n := by have := HL.out; omega
      clear hiz hjz hjl hsk hr hw hij hlt
      generalize wr = wo at *
      go_wp2_with (fail)
      go_loopw [17] (fun kv wr => ∃ (kz : Int) (e : Nat), kv = .int .i64 kz ∧ kz = P.length + e ∧ i ≤ e ∧ e ≤ R.length ∧ Ins1Rel w g n cap P R x S e wr) (fun kv _ => (intOf kv).toNat)
      case atStart => exact ⟨m, R.length, rfl, by have := HL.out; omega, by have := HI.out; omega, Nat.le_refl _, HR.out⟩
      case round =>
        obtain ⟨kz, e1', rfl, hkz, hei, her, hr, hw⟩ := hrel
        clear HR
        by_cases hlt : i < e1'
        · obtain ⟨e, rfl⟩ : ∃ e, e1' = e + 1 := ⟨e1' - 1, by omega⟩
          have hst := insRow_step (P := P) (M := R) (R := S) (x := x) (e := e) (by omega)
          obtain ⟨p, hp⟩ : ∃ p, P.length + e = p := ⟨_, rfl⟩
          obtain ⟨q, hq⟩ : ∃ q, P.length + e + 1 = q := ⟨_, rfl⟩
          obtain ⟨y, hy⟩ : ∃ y, R.getD e 0 = y := ⟨_, rfl⟩
          rw [hq, hp, hy] at hst
          have pn : p < n := by have := HL.out; have := HI.out; omega
          have qn : q < n := by have := HL.out; have := HI.out; omega
          have c1 := hr.cell qn
          have c2 := hr.cell pn
          rw [hst.2.2] at c1
          rw [hst.2.1] at c2
          have f1 := hr.free p
          have f2 := hr.free q
          obtain ⟨u, c3⟩ := hr.still qn pn y
          have HN := Lib.hid (hr.swap q p y x)
          have HV := Lib.hid (hw.trans (wrote_swap wr g q p (.int .i64 y) (.int .i64 x)))
          have k1 : iz < kz := by have := HI.out; omega
          have k0 : 0 ≤ kz - 1 := by omega
          have k2 : 0 ≤ kz := by omega
          have e1 : kz.toNat = q := by omega
          have e2 : (kz - 1).toNat = p := by omega
          have e3 : IntKind.i64.wrap (kz - 1) = kz - 1 := by rw [IntKind.wrap_i64]; omega
          have e5 : kz < n := by omega
          have e6 : kz - 1 < n := by omega
          have HK := Lib.hid (And.intro hst (And.intro hkz (And.intro hlt her)))
          clear hst hr hw hkz hei hlt hp hq hy her
          go_wp2_with fail
          go_big_region
          clear c1 c2 c3 f1 f2 e1 e2 e3
          generalize ((wr.setCell ⟨g, q, none⟩ (.int .i64 y)).setCell ⟨g, p, none⟩ (.int .i64 x)).drew = w3 at *
          go_wp2
          go_roundw
          case rel => exact ⟨kz - 1, e, by go_num, by have := HK.out; omega, by have := HK.out; omega, by have := HK.out; omega, by rw [← HK.out.1.1]; exact HN.out, HV.out⟩
          case measure => simp [intOf]; omega
        · obtain rfl : e1' = i := by omega
          have k1 : ¬ iz < kz := by have := HI.out; omega
          have HE := Lib.hid (HF.out wr ⟨hr, hw⟩)
          clear hkz hei hr hw hlt her
          go_wp2
          go_end0
          exact HE.out

end Go.Proofs.YtkbhemaijbkpbaaGreat
namespace Go.Proofs.YtkbhemaijbkpbaaGreat
open Go.RowKit

theorem symAll {g n cap : Nat} (key : Int → Int) (N : Int) (B : Nat) (hn : n ≤ 1000000) : ∀ K, SymSaid g n cap key N B K := by
  intro K
  induction K with
  | zero => intro w P L R S a m b hK; omega
  | succ K ih =>
    intro w P L R S a m b hK h hr hC ha hm hb
    by_cases h1 : 1 < L.length
    · by_cases h2 : 1 < R.length
      · exact symMain ih w P L R S a m b (by omega) h hr hC h1 h2 ha hm hb hn
      · obtain ⟨y, rfl⟩ := List.length_eq_one_iff.1 (show R.length = 1 by have := h.r0; omega)
        exact symRight w P L S y a m b hr hC h.ls (fun x hx => h.lt x hx y (by simp)) h1 (fun x hx => h.ok x (by simp at hx ⊢; rcases hx with h3 | h3; exact .inr h3; exact .inl h3)) ha hm (by simpa using hb) hn
    · obtain ⟨x, rfl⟩ := List.length_eq_one_iff.1 (show L.length = 1 by have := h.l0; omega)
      exact symLeft w P R S x a m b hr hC h.rs (fun y hy => h.lt x (by simp) y hy) (fun y hy => h.ok y (by simpa using hy)) ha (by simpa using hm) (by simpa using hb) hn

theorem symMerge {g n cap : Nat} {key : Int → Int} {N : Int} {B : Nat} (w : World) (P L R S : List Int) (a m b : Int) (h : TwoOk key N L R) (hr : IRow w g n cap (P ++ L ++ R ++ S)) (hC : CmpAt key N B g w) (ha : a = P.length) (hm : m = P.length + L.length) (hb : b = P.length + L.length + R.length) (hn : n ≤ 1000000) :
    Calls Tryz.prog 245 #[.slice (some ⟨g, 0, none⟩) n cap, .int .i64 a, .int .i64 m, .int .i64 b, .func (.func 235) #[] #[.pointer (some ⟨B, 0, none⟩)]] w (Sortd w g n cap key P (L ++ R) S) :=
  symAll key N B hn (L.length + R.length + 1) w P L R S a m b (by omega) h hr hC ha hm hb

end Go.Proofs.YtkbhemaijbkpbaaGreat
