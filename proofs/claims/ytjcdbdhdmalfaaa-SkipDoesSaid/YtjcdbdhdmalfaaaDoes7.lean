/-
  What does and Heavy of SkipDoes tell: true; how much there is of deeds. Conditions: deeds that can be done.
-/
import Derived.Test.YtjcdbdhdmalfaaaStep7
namespace Go.Proofs.Ytjcdbdhdmalfaaa
open Go.RowKit

/-- What holds at each round's head. -/
def DRel (w : World) (mo : Int) (c r : Value) (wr : World) : Prop := ∃ F p l ao cap, c = .pointer (some ⟨p, 0, none⟩) ∧ r = .slice ao l.length cap ∧ Duo w F p mo l ao cap wr

theorem Duo.copied {w a b : World} {F : Nat → Prop} {p q : Nat} {mo : Int} {l : List It} {ao : Option Addr} {cap : Nat} (h : Duo w F p mo l ao cap a) (s : Skip b (New a b) q mo l) (hb : Below a.heap.size a b) : Duo w (New a b) q mo l ao cap b :=
  ⟨(h.at_.copied s hb).1, h.it.keep hb, h.cap, fun hp x e hf => by have := h.it.lt hp x e; have := hf.1; omega⟩

set_option maxRecDepth 100000 in
set_option maxHeartbeats 16000000 in
theorem doesAny (w : World) (most : Int) (ao : Option Addr) (len cap : Nat) (xs : List Deed7) (hx : DeedsAt w ao len xs) (hg : ∀ x ∈ xs, x.fine w) (hlen : len ≤ 1000) :
    Calls Try.prog 13 #[.int .i64 most, .slice ao len cap] w fun e w' => e = .returned (.bool true) ∧ Below w.heap.size w w' := by
  have HX := Lib.hid hx
  have HG := Lib.hid hg
  clear hx hg
  have HStep : Hid (∀ {W : World} {F : Nat → Prop} {p : Nat} {l : List It} {ao : Option Addr} {cap : Nat}, Duo w F p (mostOf most) l ao cap W → ∀ x : Deed7, x.fine w → Calls Try.prog 26 #[.pointer (some ⟨p, 0, none⟩), .int .i64 most, .slice ao l.length cap, .agg #[.int .u8 x.k, .int .i32 x.v, .int .i64 x.h, .slice x.vo x.n x.cv, .slice x.ho x.m x.ch]] W (StepPost w p (mostOf most))) := Lib.hid fun h x hx => stepAny most h x hx
  have HM : Hid (∀ W, Calls Try.prog 28 #[.int .i64 most] W fun e w' => e = .returned (.int .i64 (mostOf most)) ∧ W = w') := Lib.hid fun W => refMost most W
  have C := newAny most w
  generalize mostOf most = mo at *
  go_enter Try.func13, Try.ntmps13
  go_wp2_with fail
  refine C.mono ?_
  clear C
  rintro e w1 ⟨rfl, s1, bl1⟩
  have HS1 := Lib.hid (show DRel w mo (.pointer (some ⟨w.heap.size, 0, none⟩)) (.slice none 0 0) w1 from ⟨_, _, [], none, 0, rfl, rfl, At.new s1 bl1, ItemsAt.nil _ _, Nat.le_refl _, fun h => absurd h (by simp)⟩)
  clear s1 bl1
  go_wp2
  go_loopw [5, 6, 7] (fun c r i wr => ∃ k : Nat, k ≤ len ∧ i = .int .i64 k ∧ DRel w mo c r wr) (fun _ _ i _ => len - (intOf i).toNat)
  case atStart => exact ⟨0, Nat.zero_le _, rfl, HS1.out⟩
  case round =>
    obtain ⟨k, hk, rfl, F, p, l, a1, cap1, rfl, rfl, hD⟩ := hrel
    clear HS1
    have HD := Lib.hid hD
    clear hD
    have k0 : (0 : Int) ≤ (k : Int) := by omega
    by_cases hlt : k < len
    · obtain ⟨b, off, rfl, hbl, hc⟩ := HX.out.2 (by omega)
      have hcs := hc k hlt
      have HFine := Lib.hid (HG.out (xs.getD k Deed7.no) (by
        have : k < xs.length := by rw [HX.out.1]; exact hlt
        simp [List.getD, this]))
      clear hc
      generalize xs.getD k Deed7.no = x at *
      have c0 := (HD.out.at_.2.1.cell (p := ⟨b, off + k * 5, none⟩) hbl).trans (hcs 0 _ rfl)
      have c1 := (HD.out.at_.2.1.cell (p := ⟨b, off + k * 5 + 1, none⟩) hbl).trans (hcs 1 _ rfl)
      have c2 := (HD.out.at_.2.1.cell (p := ⟨b, off + k * 5 + 2, none⟩) hbl).trans (hcs 2 _ rfl)
      have c3 := (HD.out.at_.2.1.cell (p := ⟨b, off + k * 5 + 3, none⟩) hbl).trans (hcs 3 _ rfl)
      have c4 := (HD.out.at_.2.1.cell (p := ⟨b, off + k * 5 + 4, none⟩) hbl).trans (hcs 4 _ rfl)
      have HC0 := Lib.hid (hcs 0 _ rfl)
      have C := HStep.out HD.out x HFine.out
      have hk01 := HFine.out.k
      clear hcs HFine
      generalize l.length = ll at *
      go_wp2_with fail
      refine C.mono ?_
      clear C
      rintro e w2 ⟨F2, l2, a2, cap2, rfl, u2⟩
      have HD2 := Lib.hid u2
      have c0 : w2.cell? ⟨b, off + k * 5, none⟩ = some (.int .u8 x.k) := (HD2.out.at_.2.1.cell (p := ⟨b, off + k * 5, none⟩) hbl).trans HC0.out
      clear u2 HD c1 c2 c3 c4 HC0
      by_cases hk3 : x.k % 4 = 3
      · have hkb : (x.k % 4 == 3) = true := by simp [hk3]
        have C := copyAny HD2.out.at_.1
        clear hk3
        generalize hl2 : l2.length = ll2 at *
        go_wp2_with fail
        refine C.mono ?_
        clear C
        rintro e w3 ⟨q, rfl, s3, b3⟩
        have HD3 := Lib.hid (HD2.out.copied s3 b3)
        clear s3 b3 HD2 c0
        have C := alikeDuo w3 HD3.out
        rw [hl2] at C
        go_wp2_with fail
        refine C.mono ?_
        clear C
        rintro e w4 ⟨rfl, b4⟩
        have HD4 := Lib.hid (HD3.out.fresh b4)
        clear b4 HD3
        have C := mostAny HD4.out.at_.1
        go_wp2_with fail
        refine C.mono ?_
        clear C
        rintro e w5 ⟨rfl, rfl⟩
        have C := HM.out w4
        have hmm : (mo != mo) = false := by simp
        go_wp2_with fail
        refine C.mono ?_
        clear C
        rintro e w5 ⟨rfl, rfl⟩
        go_wp2
        go_roundw
        case rel => exact ⟨k + 1, by omega, by go_num, _, _, l2, _, _, rfl, by rw [hl2], HD4.out⟩
        case measure => simp [intOf]; omega
      · have hkb : (x.k % 4 == 3) = false := by simp [hk3]
        clear hk3
        have C := alikeDuo w2 HD2.out
        generalize hl2 : l2.length = ll2 at *
        go_wp2_with fail
        refine C.mono ?_
        clear C
        rintro e w4 ⟨rfl, b4⟩
        have HD4 := Lib.hid (HD2.out.fresh b4)
        clear b4 HD2 c0
        have C := mostAny HD4.out.at_.1
        go_wp2_with fail
        refine C.mono ?_
        clear C
        rintro e w5 ⟨rfl, rfl⟩
        have C := HM.out w4
        have hmm : (mo != mo) = false := by simp
        go_wp2_with fail
        refine C.mono ?_
        clear C
        rintro e w5 ⟨rfl, rfl⟩
        go_wp2
        go_roundw
        case rel => exact ⟨k + 1, by omega, by go_num, _, _, l2, _, _, rfl, by rw [hl2], HD4.out⟩
        case measure => simp [intOf]; omega
    · obtain rfl : k = len := by omega
      go_wp2
      go_ret
      exact ⟨rfl, HD.out.at_.2.1⟩

set_option maxHeartbeats 4000000 in
theorem heavyAny (w : World) (ao : Option Addr) (len cap : Nat) (xs : List Deed7) (hx : DeedsAt w ao len xs) (hg : ∀ x ∈ xs, x.n ≤ 140737488351232 ∧ x.m ≤ 140737488351232) (hlen : len ≤ 140737488351232) :
    Calls Try.prog 10 #[.slice ao len cap] w fun e w' => ∃ T : Nat, e = .returned (.int .i64 T) ∧ Below w.heap.size w w' ∧ (T ≤ 500 → sumN xs xs.length ≤ 500) := by
  have HX := Lib.hid hx
  have HG := Lib.hid hg
  clear hx hg
  go_enter Try.func10, Try.ntmps10
  go_wp2
  go_loopw [3, 4] (fun t i wr => ∃ k T : Nat, k ≤ len ∧ i = .int .i64 k ∧ t = .int .i64 T ∧ Hid (T = sumN xs k) ∧ T ≤ 281474976711706 ∧ Below w.heap.size w wr) (fun _ i _ => len - (intOf i).toNat)
  case atStart => exact ⟨0, 0, Nat.zero_le _, rfl, rfl, Lib.hid (by simp [sumN]), by omega, Below.refl _ _⟩
  case round =>
    obtain ⟨k, T, hk, rfl, rfl, HT, hT, hb⟩ := hrel
    have HB := Lib.hid hb
    clear hb
    have k0 : (0 : Int) ≤ (k : Int) := by omega
    by_cases hlt : k < len
    · by_cases hT3 : T ≤ 1000
      · obtain ⟨b, off, rfl, hbl, hc⟩ := HX.out.2 (by omega)
        have hcs := hc k hlt
        have hkl : k < xs.length := by rw [HX.out.1]; exact hlt
        obtain ⟨hn, hm⟩ := HG.out (xs.getD k Deed7.no) (by simp [List.getD, hkl])
        have HN := Lib.hid (sumN_succ xs k hkl)
        clear hc hkl
        generalize xs.getD k Deed7.no = x at *
        have c3 := (HB.out.cell (p := ⟨b, off + k * 5 + 3, none⟩) hbl).trans (hcs 3 _ rfl)
        have c4 := (HB.out.cell (p := ⟨b, off + k * 5 + 4, none⟩) hbl).trans (hcs 4 _ rfl)
        clear hcs
        have hT4 : (T : Int) ≤ 1000 := by omega
        have i1 : (k : Int) < len := by omega
        generalize x.n = xn at *
        generalize x.m = xm at *
        go_wp2
        go_quiet (fail)
        go_wp2
        go_roundw
        case rel => exact ⟨k + 1, T + (2 + xn + xm), by omega, by go_num, by go_num, Lib.hid (by rw [HN.out, HT.out]), by omega, below_drewN HB.out _⟩
        case measure => simp [intOf]; omega
      · have hT4 : ¬ (T : Int) ≤ 1000 := by omega
        have i1 : (k : Int) < len := by omega
        go_wp2
        go_ret
        exact ⟨T, rfl, HB.out, fun h => by omega⟩
    · obtain rfl : k = len := by omega
      have HQ := Lib.hid (show T ≤ 500 → sumN xs xs.length ≤ 500 from fun h => by rw [HX.out.1, ← HT.out]; exact h)
      go_wp2
      go_ret
      exact ⟨T, rfl, HB.out, HQ.out⟩

end Go.Proofs.Ytjcdbdhdmalfaaa
