/-
  slices.symMergeCmpFunc merges two sorted ranges of a row of ints that lie side by side: the way that cuts both. Conditions: a row of one's own; a comparison as CmpAt says; the left numbers are less than the right ones; what it calls by itself is known.
-/
import Derived.Test.YtikaoikladbdpaaGreatG1716
import Derived.Deep.DeepCutAuto
namespace Go.Proofs.YtikaoikladbdpaaGreat
open Go.RowKit

structure TwoOk (key : Int → Int) (N : Int) (L R : List Int) : Prop where
  l0 : 0 < L.length
  r0 : 0 < R.length
  ls : Srt key L
  rs : Srt key R
  lt : ∀ x ∈ L, ∀ y ∈ R, x < y
  ok : ∀ x ∈ L ++ R, 0 ≤ x ∧ x < N

def SymSaid (g n cap : Nat) (key : Int → Int) (N : Int) (B K : Nat) : Prop :=
  ∀ (w : World) (P L R S : List Int) (a m b : Int), L.length + R.length < K → TwoOk key N L R → IRow w g n cap (P ++ L ++ R ++ S) → CmpAt key N B g w → a = P.length → m = P.length + L.length → b = P.length + L.length + R.length →
    Calls Tryz.prog 245 #[.slice (some ⟨g, 0, none⟩) n cap, .int .i64 a, .int .i64 m, .int .i64 b, .func (.func 235) #[] #[.pointer (some ⟨B, 0, none⟩)]] w (Sortd w g n cap key P (L ++ R) S)

theorem two_l {P L R S : List Int} {i : Nat} (h1 : P.length ≤ i) (h2 : i < P.length + L.length) : (P ++ L ++ R ++ S).getD i 0 = L.getD (i - P.length) 0 := by
  obtain ⟨j, rfl⟩ : ∃ j, i = P.length + j := ⟨i - P.length, by omega⟩
  rw [List.append_assoc, List.append_assoc, getD_at, getD_left _ _ _ (by omega), Nat.add_sub_cancel_left]
theorem two_r {P L R S : List Int} {i : Nat} (h1 : P.length + L.length ≤ i) (h2 : i < P.length + L.length + R.length) : (P ++ L ++ R ++ S).getD i 0 = R.getD (i - (P.length + L.length)) 0 := by
  obtain ⟨j, rfl⟩ : ∃ j, i = (P ++ L).length + j := ⟨i - (P.length + L.length), by simp; omega⟩
  rw [List.append_assoc, getD_at, getD_left _ _ _ (by simp at h2; omega)]
  congr 1
  simp

def SymC (key : Int → Int) (L R : List Int) (a m nn s0 r0 s r : Int) : Prop :=
  (s = s0 ∨ ¬ key (R.getD (nn - s - m).toNat 0) < key (L.getD (s - 1 - a).toNat 0)) ∧ (r = r0 ∨ key (R.getD (nn - 1 - r - m).toNat 0) < key (L.getD (r - a).toNat 0))

structure SymF (a m b mid s0 r0 : Int) : Prop where
  a1 : a ≤ s0
  a2 : s0 ≤ r0
  a3 : r0 ≤ m
  a4 : mid + m - s0 ≤ b
  a5 : m ≤ mid + m - r0
  a6 : s0 = a ∨ mid + m - s0 = b
  a7 : r0 = m ∨ mid + m - r0 = m

theorem sym_cut {key : Int → Int} {N : Int} {L R : List Int} (h : TwoOk key N L R) {a m b mid s0 r0 s : Int} (hf : SymF a m b mid s0 r0) (hm : m = a + L.length) (hb : b = m + R.length) (h1 : s0 ≤ s) (h2 : s ≤ r0) (hc : SymC key L R a m (mid + m) s0 r0 s s) :
    ((s - a).toNat = 0 ∨ (mid - s).toNat = R.length ∨ kLe key (L.getD ((s - a).toNat - 1) 0) (R.getD (mid - s).toNat 0)) ∧ ((mid - s).toNat = 0 ∨ (s - a).toNat = L.length ∨ kLe key (R.getD ((mid - s).toNat - 1) 0) (L.getD (s - a).toNat 0)) := by
  obtain ⟨c1, c2⟩ := hc
  obtain ⟨f1, f2, f3, f4, f5, f6, f7⟩ := hf
  constructor
  · rcases c1 with c | c
    · rcases f6 with f | f
      · left; omega
      · right; left; omega
    · by_cases e1 : s = a
      · left; omega
      · by_cases e2 : mid - s = R.length
        · right; left; omega
        · right; right
          rw [show (mid + m - s - m).toNat = (mid - s).toNat by omega, show (s - 1 - a).toNat = (s - a).toNat - 1 by omega] at c
          refine .of_not c (Int.le_of_lt (h.lt _ ?_ _ ?_))
          · simp [List.getD, show (s - a).toNat - 1 < L.length by omega]
          · simp [List.getD, show (mid - s).toNat < R.length by omega]
  · rcases c2 with c | c
    · rcases f7 with f | f
      · right; left; omega
      · left; omega
    · by_cases e1 : mid = s
      · left; omega
      · by_cases e2 : s - a = L.length
        · right; left; omega
        · right; right
          rw [show (mid + m - 1 - s - m).toNat = (mid - s).toNat - 1 by omega] at c
          exact .of_lt c

theorem TwoOk.part {key : Int → Int} {N : Int} {L R L' R' : List Int} (h : TwoOk key N L R) (hl : L'.Sublist L) (hr : R'.Sublist R) (l0 : 0 < L'.length) (r0 : 0 < R'.length) : TwoOk key N L' R' :=
  ⟨l0, r0, List.Pairwise.sublist hl h.ls, List.Pairwise.sublist hr h.rs, fun x hx y hy => h.lt x (hl.subset hx) y (hr.subset hy), fun x hx => h.ok x (by
    rcases List.mem_append.1 hx with h1 | h1
    · exact List.mem_append_left _ (hl.subset h1)
    · exact List.mem_append_right _ (hr.subset h1))⟩

set_option maxRecDepth 100000 in
set_option maxHeartbeats 16000000 in
theorem symMain {g n cap : Nat} {key : Int → Int} {N : Int} {B K : Nat} (IH : SymSaid g n cap key N B K) (w : World) (P L R S : List Int) (a m b : Int) (hK : L.length + R.length ≤ K) (h : TwoOk key N L R) (hr : IRow w g n cap (P ++ L ++ R ++ S)) (hC : CmpAt key N B g w) (hl1 : 1 < L.length) (hr1 : 1 < R.length)
    (ha : a = P.length) (hm : m = P.length + L.length) (hb : b = P.length + L.length + R.length) (hn : n ≤ 1000000) :
    Calls Tryz.prog 245 #[.slice (some ⟨g, 0, none⟩) n cap, .int .i64 a, .int .i64 m, .int .i64 b, .func (.func 235) #[] #[.pointer (some ⟨B, 0, none⟩)]] w (Sortd w g n cap key P (L ++ R) S) := by
  have hl : P.length + L.length + R.length + S.length = n := by have := hr.len; simp at this; omega
  have HI := Lib.hid IH
  have HT := Lib.hid h
  have HR := Lib.hid hr
  have HC := Lib.hid hC
  have HL := Lib.hid (And.intro ha (And.intro hm (And.intro hb hl)))
  have a0 : 0 ≤ a := by omega
  have am : a + 1 < m := by omega
  have mb : m + 1 < b := by omega
  have bn : b ≤ n := by omega
  have d1 : (m - a == 1) = false := beq_eq_false_iff_ne.2 (by omega)
  have d2 : (b - m == 1) = false := beq_eq_false_iff_ne.2 (by omega)
  clear IH h hr hC ha hm hb hl hl1 hr1
  go_enter Tryz.func245, Tryz.ntmps245
  go_upto_if 140 with (fail)
  go_cut [20, 21] from 141 to 146 (fun s r wx => ∃ s0 r0 : Int, s = .int .i64 s0 ∧ r = .int .i64 r0 ∧ Hid (SymF a m b ((a + b) / 2) s0 r0) ∧ w = wx)
  case first =>
    by_cases hmm : (a + b) / 2 < m
    · go_wp2_with (fail)
      go_meet
      exact ⟨_, _, rfl, rfl, Lib.hid ⟨by omega, by omega, by omega, by omega, by omega, by omega, by omega⟩, rfl⟩
    · go_wp2_with (fail)
      go_meet
      exact ⟨_, _, rfl, rfl, Lib.hid ⟨by omega, by omega, by omega, by omega, by omega, by omega, by omega⟩, rfl⟩
  case rest =>
    obtain ⟨s0, r0, rfl, rfl, HF, rfl⟩ := hcut
    have HMid := Lib.hid (show (a + b) / 2 ≤ b ∧ a ≤ (a + b) / 2 ∧ a + b - 1 ≤ (a + b) / 2 * 2 ∧ (a + b) / 2 * 2 ≤ a + b from by omega)
    have mid0 : a < (a + b) / 2 := by omega
    have mid1 : (a + b) / 2 < b := by omega
    generalize (a + b) / 2 = mid at *
    have q1 := HF.out.a1
    have q2 := HF.out.a2
    have q3 := HF.out.a3
    have HQ := Lib.hid (And.intro HF.out.a4 HF.out.a5)
    go_wp2_with (fail)
    go_loopw [20, 21] (fun s r wr => ∃ s1 r1 : Int, s = .int .i64 s1 ∧ r = .int .i64 r1 ∧ s0 ≤ s1 ∧ s1 ≤ r1 ∧ r1 ≤ r0 ∧ SymC key L R a m (mid + m) s0 r0 s1 r1 ∧ IRow wr g n cap (P ++ L ++ R ++ S) ∧ Wrote (At1 g) w wr) (fun s r _ => (intOf r).toNat - (intOf s).toNat)
    case atStart => exact ⟨s0, r0, rfl, rfl, Int.le_refl _, q2, Int.le_refl _, ⟨.inl rfl, .inl rfl⟩, HR.out, Wrote.refl _ _⟩
    case round =>
      obtain ⟨s1, r1, rfl, rfl, h1, h2, h3, hc, hr, hw⟩ := hrel
      clear HR
      by_cases hlt : s1 < r1
      · have k1 : s1 ≤ (s1 + r1) / 2 := by omega
        have k2 : (s1 + r1) / 2 < r1 := by omega
        obtain ⟨i, hi⟩ : ∃ i, ((s1 + r1) / 2).toNat = i := ⟨_, rfl⟩
        obtain ⟨j, hj⟩ : ∃ j, (mid + m - 1 - (s1 + r1) / 2).toNat = j := ⟨_, rfl⟩
        have z1 : (P.length : Int) ≤ (s1 + r1) / 2 ∧ (s1 + r1) / 2 < P.length + L.length := by have := HL.out; omega
        have z2 : (P.length : Int) + L.length ≤ mid + m - 1 - (s1 + r1) / 2 ∧ mid + m - 1 - (s1 + r1) / 2 < P.length + L.length + R.length := by have := HL.out; have := HQ.out; omega
        have ex : (P ++ L ++ R ++ S).getD i 0 = L.getD ((s1 + r1) / 2 - a).toNat 0 := by
          rw [two_l (by omega) (by omega), show ((s1 + r1) / 2 - a).toNat = i - P.length by have := HL.out; omega]
        have ey : (P ++ L ++ R ++ S).getD j 0 = R.getD (mid + m - 1 - (s1 + r1) / 2 - m).toNat 0 := by
          rw [two_r (by omega) (by omega), show (mid + m - 1 - (s1 + r1) / 2 - m).toNat = j - (P.length + L.length) by have := HL.out; omega]
        have bx : 0 ≤ L.getD ((s1 + r1) / 2 - a).toNat 0 ∧ L.getD ((s1 + r1) / 2 - a).toNat 0 < N := by
          refine HT.out.ok _ (List.mem_append_left _ ?_)
          simp [List.getD, show ((s1 + r1) / 2 - a).toNat < L.length by have := HL.out; omega]
        have bY : 0 ≤ R.getD (mid + m - 1 - (s1 + r1) / 2 - m).toNat 0 ∧ R.getD (mid + m - 1 - (s1 + r1) / 2 - m).toNat 0 < N := by
          refine HT.out.ok _ (List.mem_append_right _ ?_)
          simp [List.getD, show (mid + m - 1 - (s1 + r1) / 2 - m).toNat < R.length by have := HL.out; omega]
        have hin : i < n := by have := HL.out; omega
        have hjn : j < n := by have := HL.out; omega
        have c1 := hr.cell hin
        have c2 := hr.cell hjn
        rw [ex] at c1
        rw [ey] at c2
        have e1 : 0 ≤ (s1 + r1) / 2 := by omega
        have e2 : 0 ≤ mid + m - 1 - (s1 + r1) / 2 := by omega
        have e3 : (s1 + r1) / 2 < n := by omega
        have e4 : mid + m - 1 - (s1 + r1) / 2 < n := by omega
        have e5 : IntKind.i64.wrap (mid + m - 1 - (s1 + r1) / 2) = mid + m - 1 - (s1 + r1) / 2 := by rw [IntKind.wrap_i64]; omega
        have HN := Lib.hid (fun t => And.intro (hr.drewN t) (hw.drewN t))
        have HC2 := Lib.hid (And.intro hc (And.intro h1 h3))
        obtain ⟨x, hx⟩ : ∃ x, L.getD ((s1 + r1) / 2 - a).toNat 0 = x := ⟨_, rfl⟩
        obtain ⟨y, hy⟩ : ∃ y, R.getD (mid + m - 1 - (s1 + r1) / 2 - m).toNat 0 = y := ⟨_, rfl⟩
        rw [hx] at c1 bx
        rw [hy] at c2 bY
        have CD := fun q => Calls.quiet_of (HC.out (wr.drewN q) y x (hw.drewN q) bY.1 bY.2 bx.1 bx.2)
        obtain ⟨c0, hc0⟩ : ∃ c, cmp3 (key y) (key x) = c := ⟨_, rfl⟩
        simp only [hc0] at CD
        have HX := Lib.hid (And.intro hx hy)
        clear ex ey hx hy z1 z2 bx bY hr hw hc h1 h2 h3
        by_cases hky : key y < key x
        · have d3 : c0 < 0 := by rw [← hc0]; exact cmp3_lt hky
          have d4 : decide (c0 < 0) = true := by simp [d3]
          have HK := Lib.hid (show SymC key L R a m (mid + m) s0 r0 s1 ((s1 + r1) / 2) from ⟨HC2.out.1.1, .inr (by rw [HX.out.1, HX.out.2]; exact hky)⟩)
          clear hc0 hky
          go_wp2_with (fail)
          generalize (s1 + r1) / 2 = cc at *
          go_quiet ((go_at_call 235; exact CD _))
          clear CD c1 c2 e5 hi hj
          go_wp2
          go_roundw
          case rel => exact ⟨s1, cc, rfl, rfl, HC2.out.2.1, k1, by have := HC2.out.2.2; omega, HK.out, (HN.out _).1, (HN.out _).2⟩
          case measure => simp [intOf]; omega
        · have d3 : ¬ c0 < 0 := by rw [← hc0]; have := cmp3_ge hky; omega
          have d4 : decide (c0 < 0) = false := by simp; omega
          have HK := Lib.hid (show SymC key L R a m (mid + m) s0 r0 ((s1 + r1) / 2 + 1) r1 from ⟨.inr (by rw [show mid + m - ((s1 + r1) / 2 + 1) - m = mid + m - 1 - (s1 + r1) / 2 - m by omega, show (s1 + r1) / 2 + 1 - 1 - a = (s1 + r1) / 2 - a by omega, HX.out.1, HX.out.2]; exact hky), HC2.out.1.2⟩)
          clear hc0 hky
          go_wp2_with (fail)
          generalize (s1 + r1) / 2 = cc at *
          go_quiet ((go_at_call 235; exact CD _))
          clear CD c1 c2 e5 hi hj
          go_wp2
          go_roundw
          case rel => exact ⟨cc + 1, r1, by go_num, rfl, by have := HC2.out.2.1; omega, by omega, HC2.out.2.2, HK.out, (HN.out _).1, (HN.out _).2⟩
          case measure => simp [intOf]; omega
      · obtain rfl : s1 = r1 := by omega
        have hcut := sym_cut HT.out HF.out (by have := HL.out; omega) (by have := HL.out; omega) h1 h3 hc
        have w1 : a ≤ s1 := by omega
        have w2 : s1 ≤ m := by omega
        have w3 : s1 ≤ mid := by have := HQ.out; omega
        have w4 : mid + m - s1 ≤ b := by have := HQ.out; omega
        obtain ⟨sl, hsl⟩ : ∃ x, (s1 - a).toNat = x := ⟨_, rfl⟩
        obtain ⟨er, her⟩ : ∃ x, (mid - s1).toNat = x := ⟨_, rfl⟩
        rw [hsl, her] at hcut
        have HCut := Lib.hid hcut
        have sL : sl ≤ L.length := by have := HL.out; omega
        have eR : er ≤ R.length := by have := HL.out; omega
        obtain ⟨L1, hL1⟩ : ∃ x, L.take sl = x := ⟨_, rfl⟩
        obtain ⟨L2, hL2⟩ : ∃ x, L.drop sl = x := ⟨_, rfl⟩
        obtain ⟨R1, hR1⟩ : ∃ x, R.take er = x := ⟨_, rfl⟩
        obtain ⟨R2, hR2⟩ : ∃ x, R.drop er = x := ⟨_, rfl⟩
        have eL : L1 ++ L2 = L := by rw [← hL1, ← hL2]; exact List.take_append_drop _ _
        have eRR : R1 ++ R2 = R := by rw [← hR1, ← hR2]; exact List.take_append_drop _ _
        have nL1 : L1.length = sl := by rw [← hL1]; simp; omega
        have nR1 : R1.length = er := by rw [← hR1]; simp; omega
        have nL2 : L2.length = L.length - sl := by rw [← hL2]; simp
        have nR2 : R2.length = R.length - er := by rw [← hR2]; simp
        have HR := Lib.hid (show IRow wr g n cap (P ++ L1 ++ L2 ++ R1 ++ (R2 ++ S)) by rw [← eL, ← eRR] at hr; simpa using hr)
        have HW := Lib.hid hw
        have sub1 : L1.Sublist L := by rw [← hL1]; exact List.take_sublist _ _
        have sub2 : L2.Sublist L := by rw [← hL2]; exact List.drop_sublist _ _
        have sub3 : R1.Sublist R := by rw [← hR1]; exact List.take_sublist _ _
        have sub4 : R2.Sublist R := by rw [← hR2]; exact List.drop_sublist _ _
        have HNum := Lib.hid (And.intro hsl (And.intro her (And.intro nL1 (And.intro nR1 (And.intro nL2 (And.intro nR2 HL.out))))))
        have HEq := Lib.hid (And.intro (And.intro hL1 hL2) (And.intro hR1 hR2))
        clear hcut hc h1 h2 h3 hsl her hL1 hL2 hR1 hR2 eL eRR nL1 nR1 nL2 nR2 hr hw hlt q1 q2 q3
        go_upto_region 39 with (fail)
        go_cut [185] from 178 to 185 (fun t wx => ∃ bt : Bool, t = .bool bt ∧ Hid (bt = true ↔ (s1 < m ∧ m < mid + m - s1)) ∧ wr = wx)
        case first =>
          by_cases hA : s1 < m
          · by_cases hB : m < mid + m - s1
            · go_wp2_with (fail)
              go_meet
              exact ⟨true, rfl, Lib.hid ⟨fun _ => ⟨hA, hB⟩, fun _ => rfl⟩, rfl⟩
            · go_wp2_with (fail)
              go_meet
              exact ⟨false, rfl, Lib.hid ⟨(fun h => by cases h), (fun h => by exfalso; omega)⟩, rfl⟩
          · go_wp2_with (fail)
            go_meet
            exact ⟨false, rfl, Lib.hid ⟨(fun h => by cases h), (fun h => by exfalso; omega)⟩, rfl⟩
        case' rest => obtain ⟨bt, rfl, HB, rfl⟩ := hcut
        go_upto_if 185 with (fail)
        go_cut [185] from 186 to 191 (fun s wx => IRow wx g n cap (P ++ L1 ++ R1 ++ (L2 ++ R2 ++ S)) ∧ Wrote (At1 g) w wx)
        case first =>
          cases bt with
          | true =>
            obtain ⟨hA1, hA2⟩ := HB.out.1 rfl
            have C := rotateRow wr g n cap (P ++ L1) L2 R1 (R2 ++ S) s1 m (mid + m - s1) (.func (.func 235) #[] #[.pointer (some ⟨B, 0, none⟩)]) (by simpa using HR.out) (by have := HNum.out; omega) (by have := HNum.out; omega) (by have := HNum.out; simp; omega) (by have := HNum.out; simp; omega) (by have := HNum.out; simp; omega) hn
            have HC3 := Lib.hid C
            clear C
            go_wp2_with (fail)
            refine HC3.out.mono ?_
            rintro e w5 ⟨rfl, r5, h5⟩
            have HR5 := Lib.hid (And.intro r5 (HW.out.trans h5))
            clear r5 h5 HC3
            go_wp2_with (fail)
            go_meet
            exact ⟨by simpa using HR5.out.1, HR5.out.2⟩
          | false =>
            have HR5 := Lib.hid (show IRow wr g n cap (P ++ L1 ++ R1 ++ (L2 ++ R2 ++ S)) ∧ Wrote (At1 g) w wr from by
              refine ⟨?_, HW.out⟩
              have h0 : L2 = [] ∨ R1 = [] := by
                have := HNum.out
                by_cases h1 : s1 < m
                · right
                  have h3 : ¬ m < mid + m - s1 := fun h => by have := HB.out.2 ⟨h1, h⟩; cases this
                  exact List.eq_nil_of_length_eq_zero (by omega)
                · left; exact List.eq_nil_of_length_eq_zero (by omega)
              rcases h0 with h0 | h0
              · have := HR.out; rw [h0] at this ⊢; simpa using this
              · have := HR.out; rw [h0] at this ⊢; simpa using this)
            go_wp2_with (fail)
            go_meet
            exact HR5.out
        case' rest => skip
        obtain ⟨hr3, hw3⟩ := hcut
        have HR3 := Lib.hid hr3
        have HW3 := Lib.hid hw3
        clear hr3 hw3 HR HW HB
        go_upto_region 41 with (fail)
        go_cut [199] from 192 to 199 (fun t wx => ∃ bt : Bool, t = .bool bt ∧ Hid (bt = true ↔ (a < s1 ∧ s1 < mid)) ∧ wc = wx)
        case first =>
          by_cases hA : a < s1
          · by_cases hB : s1 < mid
            · go_wp2_with (fail)
              go_meet
              exact ⟨true, rfl, Lib.hid ⟨fun _ => ⟨hA, hB⟩, fun _ => rfl⟩, rfl⟩
            · go_wp2_with (fail)
              go_meet
              exact ⟨false, rfl, Lib.hid ⟨(fun h => by cases h), (fun h => by exfalso; omega)⟩, rfl⟩
          · go_wp2_with (fail)
            go_meet
            exact ⟨false, rfl, Lib.hid ⟨(fun h => by cases h), (fun h => by exfalso; omega)⟩, rfl⟩
        case' rest => obtain ⟨bt, rfl, HB, rfl⟩ := hcut
        go_upto_if 199 with (fail)
        go_cut [199] from 200 to 205 (fun s wx => ∃ M1 : List Int, M1.Perm (L1 ++ R1) ∧ Srt key M1 ∧ IRow wx g n cap (P ++ M1 ++ (L2 ++ R2 ++ S)) ∧ Wrote (At1 g) w wx)
        case first =>
          cases bt with
          | true =>
            obtain ⟨hA1, hA2⟩ := HB.out.1 rfl
            have C := HI.out wc P L1 R1 (L2 ++ R2 ++ S) a s1 mid (by have := HNum.out; omega) (HT.out.part sub1 sub3 (by have := HNum.out; omega) (by have := HNum.out; omega)) HR3.out (HC.out.later HW3.out) (by have := HNum.out; omega) (by have := HNum.out; omega) (by have := HNum.out; omega)
            have HC3 := Lib.hid C
            clear C
            go_wp2_with (fail)
            refine HC3.out.mono ?_
            rintro e w5 ⟨rfl, M1, p5, s5, r5, h5⟩
            have HR5 := Lib.hid (And.intro p5 (And.intro s5 (And.intro r5 (HW3.out.trans h5))))
            clear p5 s5 r5 h5 HC3
            go_wp2_with (fail)
            go_meet
            exact ⟨M1, HR5.out⟩
          | false =>
            have HR5 := Lib.hid (show ∃ M1 : List Int, M1.Perm (L1 ++ R1) ∧ Srt key M1 ∧ IRow wc g n cap (P ++ M1 ++ (L2 ++ R2 ++ S)) ∧ Wrote (At1 g) w wc from by
              refine ⟨L1 ++ R1, List.Perm.refl _, ?_, by simpa using HR3.out, HW3.out⟩
              have h0 : L1 = [] ∨ R1 = [] := by
                have := HNum.out
                by_cases h1 : a < s1
                · right
                  have h3 : ¬ s1 < mid := fun h => by have := HB.out.2 ⟨h1, h⟩; cases this
                  exact List.eq_nil_of_length_eq_zero (by omega)
                · left; exact List.eq_nil_of_length_eq_zero (by omega)
              rcases h0 with h0 | h0
              · rw [h0, List.nil_append]; exact List.Pairwise.sublist sub3 HT.out.rs
              · rw [h0, List.append_nil]; exact List.Pairwise.sublist sub1 HT.out.ls)
            go_wp2_with (fail)
            go_meet
            exact HR5.out
        case' rest => skip
        obtain ⟨M1, p1, s1s, hr4, hw4⟩ := hcut
        have HR4 := Lib.hid hr4
        have HW4 := Lib.hid hw4
        have HP4 := Lib.hid (And.intro p1 (And.intro s1s (p1.length_eq)))
        clear hr4 hw4 p1 s1s HR3 HW3 HB
        have FIN : ∀ (M2 : List Int) (wx : World), M2.Perm (L2 ++ R2) → Srt key M2 → IRow wx g n cap (P ++ M1 ++ M2 ++ S) → Wrote (At1 g) w wx → Sortd w g n cap key P (L ++ R) S (.returned (.tuple #[])) wx := fun M2 wx p2 s2 r2 h2 => by
          obtain ⟨⟨e1, e2⟩, e3, e4⟩ := HEq.out
          have hh := merged_halves HT.out.ls HT.out.rs sL eR HCut.out.1 HCut.out.2 (by rw [e1, e3]; exact HP4.out.1) (by rw [e2, e4]; exact p2) HP4.out.2.1 s2
          exact ⟨rfl, M1 ++ M2, hh.1, hh.2, by simpa using r2, h2⟩
        have HFIN := Lib.hid FIN
        clear FIN
        go_upto_region 43 with (fail)
        go_cut [213] from 206 to 213 (fun t wx => ∃ bt : Bool, t = .bool bt ∧ Hid (bt = true ↔ (mid < mid + m - s1 ∧ mid + m - s1 < b)) ∧ wc = wx)
        case first =>
          by_cases hA : mid < mid + m - s1
          · by_cases hB : mid + m - s1 < b
            · go_wp2_with (fail)
              go_meet
              exact ⟨true, rfl, Lib.hid ⟨fun _ => ⟨hA, hB⟩, fun _ => rfl⟩, rfl⟩
            · go_wp2_with (fail)
              go_meet
              exact ⟨false, rfl, Lib.hid ⟨(fun h => by cases h), (fun h => by exfalso; omega)⟩, rfl⟩
          · go_wp2_with (fail)
            go_meet
            exact ⟨false, rfl, Lib.hid ⟨(fun h => by cases h), (fun h => by exfalso; omega)⟩, rfl⟩
        case' rest => obtain ⟨bt, rfl, HB, rfl⟩ := hcut
        cases bt with
        | true =>
          obtain ⟨hA1, hA2⟩ := HB.out.1 rfl
          have C := HI.out wc (P ++ M1) L2 R2 S mid (mid + m - s1) b (by have := HNum.out; omega) (HT.out.part sub2 sub4 (by have := HNum.out; omega) (by have := HNum.out; omega)) (by simpa using HR4.out) (HC.out.later HW4.out) (by have := HNum.out; have := HP4.out.2.2; simp at this ⊢; omega) (by have := HNum.out; have := HP4.out.2.2; simp at this ⊢; omega) (by have := HNum.out; have := HP4.out.2.2; simp at this ⊢; omega)
          have HC3 := Lib.hid C
          clear C
          go_wp2_with (fail)
          refine HC3.out.mono ?_
          rintro e w5 ⟨rfl, M2, p5, s5, r5, h5⟩
          have HR5 := Lib.hid (HFIN.out M2 w5 p5 s5 r5 (HW4.out.trans h5))
          clear p5 s5 r5 h5 HC3
          go_wp2
          go_end0
          exact HR5.out
        | false =>
          have HR5 := Lib.hid (show Sortd w g n cap key P (L ++ R) S (.returned (.tuple #[])) wc from by
            refine HFIN.out (L2 ++ R2) wc (List.Perm.refl _) ?_ (by simpa using HR4.out) HW4.out
            have h0 : L2 = [] ∨ R2 = [] := by
              have := HNum.out
              by_cases h1 : mid < mid + m - s1
              · right
                have h3 : ¬ mid + m - s1 < b := fun h => by have := HB.out.2 ⟨h1, h⟩; cases this
                exact List.eq_nil_of_length_eq_zero (by omega)
              · left; exact List.eq_nil_of_length_eq_zero (by omega)
            rcases h0 with h0 | h0
            · rw [h0, List.nil_append]; exact List.Pairwise.sublist sub4 HT.out.rs
            · rw [h0, List.append_nil]; exact List.Pairwise.sublist sub2 HT.out.ls)
          go_wp2
          go_end0
          exact HR5.out

end Go.Proofs.YtikaoikladbdpaaGreat
