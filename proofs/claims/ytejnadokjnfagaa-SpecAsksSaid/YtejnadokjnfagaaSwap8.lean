/-
  slices.swapRangeCmpFunc exchanges two ranges of a row of ints. Conditions: a row of one's own.
-/
import Derived.Test.YtejnadokjnfagaaIntRow
namespace Go.Proofs.Ytejnadokjnfagaa
open Go.RowKit

def SwRel (w : World) (g n cap : Nat) (P A Q B S : List Int) (i : Value) (wr : World) : Prop :=
  ∃ k : Nat, k ≤ A.length ∧ i = .int .i64 k ∧ IRow wr g n cap (P ++ (B.take k ++ A.drop k) ++ Q ++ (A.take k ++ B.drop k) ++ S) ∧ Wrote (At1 g) w wr

theorem sw_step {P A Q B S : List Int} {k : Nat} (hk : k < A.length) (hab : A.length = B.length) :
    ((P ++ (B.take k ++ A.drop k) ++ Q ++ (A.take k ++ B.drop k) ++ S).set (P.length + k) (B.getD k 0)).set (P.length + A.length + Q.length + k) (A.getD k 0)
      = P ++ (B.take (k + 1) ++ A.drop (k + 1)) ++ Q ++ (A.take (k + 1) ++ B.drop (k + 1)) ++ S := by
  have hkb : k < B.length := by omega
  have ea : A.drop k = A.getD k 0 :: A.drop (k + 1) := by rw [List.drop_eq_getElem_cons hk]; simp [List.getD, hk]
  have eb : B.drop k = B.getD k 0 :: B.drop (k + 1) := by rw [List.drop_eq_getElem_cons hkb]; simp [List.getD, hkb]
  have ta : A.take (k + 1) = A.take k ++ [A.getD k 0] := by rw [List.take_succ_eq_append_getElem hk]; simp [List.getD, hk]
  have tb : B.take (k + 1) = B.take k ++ [B.getD k 0] := by rw [List.take_succ_eq_append_getElem hkb]; simp [List.getD, hkb]
  have h := exch (P ++ B.take k) (A.drop (k + 1) ++ Q ++ A.take k) (B.drop (k + 1) ++ S) (A.getD k 0) (B.getD k 0)
  have l1 : (P ++ B.take k).length = P.length + k := by simp; omega
  have l2 : (P ++ B.take k).length + 1 + (A.drop (k + 1) ++ Q ++ A.take k).length = P.length + A.length + Q.length + k := by simp; omega
  rw [l2, l1] at h
  rw [ea, eb, ta, tb]
  simpa using h

theorem sw_cells {P A Q B S : List Int} {k : Nat} (hk : k < A.length) (hab : A.length = B.length) :
    (P ++ (B.take k ++ A.drop k) ++ Q ++ (A.take k ++ B.drop k) ++ S).getD (P.length + k) 0 = A.getD k 0 ∧
    (P ++ (B.take k ++ A.drop k) ++ Q ++ (A.take k ++ B.drop k) ++ S).getD (P.length + A.length + Q.length + k) 0 = B.getD k 0 := by
  have hkb : k < B.length := by omega
  have ea : A.drop k = A.getD k 0 :: A.drop (k + 1) := by rw [List.drop_eq_getElem_cons hk]; simp [List.getD, hk]
  have eb : B.drop k = B.getD k 0 :: B.drop (k + 1) := by rw [List.drop_eq_getElem_cons hkb]; simp [List.getD, hkb]
  constructor
  · have h := getD_head (P ++ B.take k) (A.drop (k + 1) ++ Q ++ (A.take k ++ B.drop k) ++ S) (A.getD k 0)
    have l1 : (P ++ B.take k).length = P.length + k := by simp; omega
    rw [l1] at h
    rw [ea]
    simpa using h
  · have h := getD_head (P ++ (B.take k ++ A.drop k) ++ Q ++ A.take k) (B.drop (k + 1) ++ S) (B.getD k 0)
    have l2 : (P ++ (B.take k ++ A.drop k) ++ Q ++ A.take k).length = P.length + A.length + Q.length + k := by simp; omega
    rw [l2] at h
    rw [eb]
    simpa using h

set_option maxRecDepth 100000 in
set_option maxHeartbeats 4000000 in
theorem swapRange (w : World) (g n cap : Nat) (P A Q B S : List Int) (a b m : Int) (f : Value) (h : IRow w g n cap (P ++ A ++ Q ++ B ++ S)) (hab : A.length = B.length) (hm : m = A.length) (ha : a = P.length) (hb : b = P.length + A.length + Q.length) (hn : n ≤ 1000000) :
    Calls Try.prog 54 #[.slice (some ⟨g, 0, none⟩) n cap, .int .i64 a, .int .i64 b, .int .i64 m, f] w (Rearr w g n cap (P ++ B ++ Q ++ A ++ S)) := by
  have hl : P.length + A.length + Q.length + B.length ≤ n := by have := h.len; simp at this; omega
  have HA := Lib.hid ha
  have HB := Lib.hid hb
  have HM := Lib.hid hm
  have a0 : 0 ≤ a := by omega
  have b0 : 0 ≤ b := by omega
  have ab : a + m ≤ n := by omega
  have bb : b + m ≤ n := by omega
  have m0 : 0 ≤ m := by omega
  clear ha hb hm
  have HS := Lib.hid (show SwRel w g n cap P A Q B S (.int .i64 0) w from ⟨0, Nat.zero_le _, rfl, by simpa using h, Wrote.refl _ _⟩)
  clear h
  go_enter Try.func54, Try.ntmps54
  go_wp2
  go_loopw [10] (fun i wr => SwRel w g n cap P A Q B S i wr) (fun i _ => A.length - (intOf i).toNat)
  case atStart => exact HS.out
  case round =>
    obtain ⟨k, hk, rfl, hr, hw⟩ := hrel
    have HR := Lib.hid hr
    have HW := Lib.hid hw
    clear HS hr hw
    by_cases hlt : k < A.length
    · have hlt' : (k : Int) < m := by have := HM.out; omega
      obtain ⟨x, hx⟩ : ∃ x, A.getD k 0 = x := ⟨_, rfl⟩
      obtain ⟨y, hy⟩ : ∃ y, B.getD k 0 = y := ⟨_, rfl⟩
      obtain ⟨p, hp⟩ : ∃ p, P.length + k = p := ⟨_, rfl⟩
      obtain ⟨q, hq⟩ : ∃ q, P.length + A.length + Q.length + k = q := ⟨_, rfl⟩
      have hc := sw_cells (P := P) (Q := Q) (S := S) hlt hab
      rw [hx, hy, hp, hq] at hc
      have c1 := HR.out.cell (i := p) (by omega)
      have c2 := HR.out.cell (i := q) (by omega)
      rw [hc.1] at c1
      rw [hc.2] at c2
      have f1 := HR.out.free p
      have f2 := HR.out.free q
      obtain ⟨u, c3⟩ := HR.out.still (i := p) (j := q) (by omega) (by omega) y
      have HN := Lib.hid (HR.out.swap p q y x)
      have HV := Lib.hid (HW.out.trans (wrote_swap wr g p q (.int .i64 y) (.int .i64 x)))
      have e1 : (a + (k : Int)).toNat = p := by have := HA.out; omega
      have e2 : (b + (k : Int)).toNat = q := by have := HB.out; omega
      have e3 : IntKind.i64.wrap (a + (k : Int)) = a + k := by rw [IntKind.wrap_i64]; omega
      have e4 : IntKind.i64.wrap (b + (k : Int)) = b + k := by rw [IntKind.wrap_i64]; omega
      have e5 : 0 ≤ a + (k : Int) := by omega
      have e6 : 0 ≤ b + (k : Int) := by omega
      have e7 : a + (k : Int) < n := by omega
      have e8 : b + (k : Int) < n := by omega
      have HX := Lib.hid (And.intro (And.intro hx hy) (And.intro hp hq))
      clear hc hx hy hp hq HR HW
      go_wp2_with fail
      go_big_region
      clear c1 c2 c3 f1 f2 e1 e2 e3 e4
      generalize ((wr.setCell ⟨g, p, none⟩ (.int .i64 y)).setCell ⟨g, q, none⟩ (.int .i64 x)).drew = w2 at *
      go_wp2
      go_roundw
      case rel => exact ⟨k + 1, by omega, by go_num, by have e := sw_step (P := P) (Q := Q) (S := S) hlt hab; rw [HX.out.1.1, HX.out.1.2, HX.out.2.1, HX.out.2.2] at e; rw [← e]; exact HN.out, HV.out⟩
      case measure => simp [intOf]; omega
    · obtain rfl : k = A.length := by omega
      have hlt' : ¬ ((A.length : Nat) : Int) < m := by have := HM.out; omega
      have HF := Lib.hid (show IRow wr g n cap (P ++ B ++ Q ++ A ++ S) by have := HR.out; rw [List.take_of_length_le (show B.length ≤ A.length by omega), List.take_of_length_le (show A.length ≤ A.length by omega), List.drop_eq_nil_of_le (show A.length ≤ A.length by omega), List.drop_eq_nil_of_le (show B.length ≤ A.length by omega)] at this; simpa using this)
      clear HR
      go_wp2
      go_end0
      exact ⟨rfl, by simpa using HF.out, HW.out⟩

end Go.Proofs.Ytejnadokjnfagaa
