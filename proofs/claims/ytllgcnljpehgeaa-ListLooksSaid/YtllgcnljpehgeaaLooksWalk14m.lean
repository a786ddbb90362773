/-
  The walk of ListLooks: for all numbers and lists it answers true and leaves all old memory as it was.
-/
import Derived.Test.YtllgcnljpehgeaaAsksWalk14m
namespace Go.Proofs.Ytllgcnljpehgeaa.M2
open Go.RowKit

/-- The memory, and the list that it was made of. -/
structure LK (w : World) (p : Nat) (ao : Option Addr) (zs : List Int) (W : World) : Prop where
  m : Mem1 W w.heap.size p zs.length zs (1 + (zs.length : Int))
  l : Reads .i64 W ao zs.length zs
  b : Below w.heap.size w W

theorem LK.fresh {w W V : World} {p : Nat} {ao : Option Addr} {zs : List Int} (h : LK w p ao zs W) (hb : Below W.heap.size W V) : LK w p ao zs V :=
  ⟨h.m.keep hb, h.l.keep hb, h.b.trans (hb.mono h.b.size)⟩

set_option maxRecDepth 100000 in
set_option maxHeartbeats 16000000 in
theorem looksAll {w : World} (ao : Option Addr) (len cap : Nat) (zs : List Int) (hz : Reads .i64 w ao len zs) (hl : len ≤ 200) (hM : BigL zs) (age : Int) :
    Calls Try.prog 26 #[.slice ao len cap, .int .i64 age] w fun e w' => e = .returned (.bool true) ∧ Below w.heap.size w w' := by
  obtain rfl : zs.length = len := hz.1
  obtain ⟨ps, lost, hP⟩ := path_any zs hM
  have hpl : ps.length ≤ 200 := by have := hP.len; unfold mn at this; omega
  have HMD := Lib.hid (memoryAny w ao zs.length cap zs hz hl)
  have HZ := Lib.hid hz
  have HP := Lib.hid hP
  obtain ⟨len, hlen⟩ : ∃ n, zs.length = n := ⟨_, rfl⟩
  have h1 : (if lost then [] else ints ps).length ≤ 1000 := by cases lost <;> simp [ints_len]; omega
  have KST := Lib.hid (fun (p : Nat) (V : World) (h : LK w p ao zs V) => (show Calls Try.prog 28 #[.pointer (some ⟨p, 0, none⟩)] V fun e w' => e = .returned (.int .i64 (1 + (len : Int))) ∧ V = w' by have C := steps1 h.m; rw [hlen] at C; exact C))
  have KRA := Lib.hid (fun (p : Nat) (V : World) (h : LK w p ao zs V) => show Calls _ _ _ V (fun e w' => ∃ v, e = .returned (.tuple #[v, .bool (!lost)]) ∧ IntsNew V (if lost then [] else ints ps) v w') from reachAny h.m hP)
  have KLA := Lib.hid (fun (p : Nat) (V : World) (h : LK w p ao zs V) => recordsAny h.m)
  have KWA := Lib.hid (fun (p : Nat) (V : World) (h : LK w p ao zs V) => waitingAny h.m)
  have KSA := Lib.hid (fun (p : Nat) (V : World) (h : LK w p ao zs V) => staleLAny h.m hP age)
  have KTA := Lib.hid (fun (p : Nat) (V : World) (h : LK w p ao zs V) => soundAny h.m hP)
  have KCE := Lib.hid (fun (p : Nat) (V : World) (h : LK w p ao zs V) => (show Calls Try.prog 50 #[.pointer (some ⟨p, 0, none⟩)] V fun e w' => e = .returned (.slice (some ⟨V.heap.size, 0, none⟩) len len) ∧ w'.ownsRow V.heap.size 2 1 (.slice (some ⟨V.heap.size, 0, none⟩) len len) len (zs.map (Value.int .i64)) ∧ Below V.heap.size V w' by have C := cells1 h.m; rw [hlen] at C; exact C))
  have HSV := Lib.hid (show lost = true → soundV zs ps lost = 30 by rintro rfl; rfl)
  obtain ⟨sv, hsv⟩ : ∃ sv, soundV zs ps lost = sv := ⟨_, rfl⟩
  rw [hsv] at HSV
  simp only [hsv] at KTA
  generalize (if lost then [] else ints ps) = LA at *
  generalize (if lost then [] else staleK zs ps age ps.length) = LS at *
  generalize recK (mn zs.length) = LR at *
  generalize waitK zs (mn zs.length) = LW at *
  have H1 := Lib.hid h1
  have HE := Lib.hid hlen
  have HLen := Lib.hid (show len ≤ 200 by omega)
  rw [hlen] at HMD ⊢
  clear h1 hlen hz hl hM hP hpl hsv HP
  go_enter Try.func26, Try.ntmps26
  go_wp2_with fail
  refine HMD.out.mono ?_
  clear HMD
  rintro e w1 ⟨p, u, rfl, m1, o1, b1⟩
  obtain ⟨au, cu, eu⟩ := ownShape o1
  rw [HE.out] at eu ⊢
  subst eu
  go_upto_region 2 with (fail)
  generalize hW2 : w1.alloc (.cells #[.int .i64 (len : Int), .slice au len cu, .int .i64 (1 + (len : Int))] 33) = W2
  have f2 : Below w1.heap.size w1 W2 := by subst hW2; exact (Below.refl _ _).alloc (Nat.le_refl _) _
  have S0 := Lib.hid (show LK w p ao zs W2 from ⟨m1.keep f2, by have := (HZ.out.keep b1).keep f2; exact this, b1.trans (f2.mono b1.size)⟩)
  clear m1 o1 b1 f2 hW2
  go_wp2_with fail
  refine (KST.out _ W2 S0.out).mono ?_
  rintro e w' ⟨rfl, rfl⟩
  go_wp2_with fail
  refine (KRA.out _ W2 S0.out).mono ?_
  rintro e W3 ⟨v, rfl, a1, q1, rfl, h1, b1⟩
  have R1 := Lib.hid h1
  have S1 := Lib.hid (S0.out.fresh b1)
  clear h1 b1 S0
  go_wp2_with fail
  refine (KLA.out _ W3 S1.out).mono ?_
  rintro e W4 ⟨v, rfl, a2, q2, rfl, _, b2⟩
  have R1 := Lib.hid (R1.out.keep b2)
  have S2 := Lib.hid (S1.out.fresh b2)
  clear b2 S1
  go_wp2_with fail
  refine (KWA.out _ W4 S2.out).mono ?_
  rintro e W5 ⟨v, rfl, a3, q3, rfl, _, b3⟩
  have R1 := Lib.hid (R1.out.keep b3)
  have S3 := Lib.hid (S2.out.fresh b3)
  clear b3 S2
  go_wp2_with fail
  refine (KSA.out _ W5 S3.out).mono ?_
  rintro e W6 ⟨v, rfl, a4, q4, rfl, _, b4⟩
  have R1 := Lib.hid (R1.out.keep b4)
  have S4 := Lib.hid (S3.out.fresh b4)
  clear b4 S3
  go_wp2_with fail
  refine (KTA.out _ W6 S4.out).mono ?_
  rintro e W7 ⟨rfl, b5⟩
  have R1 := Lib.hid (R1.out.keep b5)
  have S5 := Lib.hid (S4.out.fresh b5)
  clear b5 S4
  go_wp2_with fail
  refine (KRA.out _ W7 S5.out).mono ?_
  rintro e W8 ⟨v, rfl, a6, q6, rfl, h6, b6⟩
  have R6 := Lib.hid h6
  have R1 := Lib.hid (R1.out.keep b6)
  have S6 := Lib.hid (S5.out.fresh b6)
  clear h6 b6 S5
  go_wp2_with fail
  refine (KCE.out _ W8 S6.out).mono ?_
  rintro e W9 ⟨rfl, o7, b7⟩
  have R7 := Lib.hid (show Reads .i64 W9 (some ⟨W8.heap.size, 0, none⟩) len zs by have h := o7; rw [← HE.out] at h ⊢; exact reads_own h)
  have R6 := Lib.hid (R6.out.keep b7)
  have R1 := Lib.hid (R1.out.keep b7)
  have S7 := Lib.hid (S6.out.fresh b7)
  have HL9 := Lib.hid (show Reads .i64 W9 ao len zs by have := S7.out.l; rwa [HE.out] at this)
  clear o7 b7 S6
  generalize W8.heap.size = g8 at *
  go_wp2
  go_loopw [14] (fun i wr => ∃ k : Nat, k ≤ len ∧ i = .int .i64 k ∧ Below W9.heap.size W9 wr) (fun i _ => len - (intOf i).toNat)
  case atStart => exact ⟨0, Nat.zero_le _, rfl, Below.refl _ _⟩
  case round =>
    obtain ⟨k, hk, rfl, hbe⟩ := hrel
    have HB9 := Lib.hid hbe
    by_cases hlt : k < len
    · obtain ⟨b1, o1, e1, l1, h1⟩ := (R7.out.keep hbe).2 (by omega)
      obtain ⟨b2, o2, rfl, l2, h2⟩ := (HL9.out.keep hbe).2 (by omega)
      simp only [Option.some.injEq, Addr.mk.injEq] at e1
      obtain ⟨rfl, rfl, _⟩ := e1
      have c1 := h1 k hlt
      have c2 := h2 k hlt
      rw [Nat.zero_add] at c1
      have i0 : (k : Int) < len := by omega
      have HLT := Lib.hid hlt
      have k2 : (k : Int) ≤ 200 := by have := HLen.out; omega
      clear h1 h2 hbe hlt hk
      generalize zs.getD k 0 = e1 at *
      go_wp2
      go_quiet (fail)
      go_wp2
      go_roundw
      case rel => exact ⟨k + 1, HLT.out, by go_num, below_drewN HB9.out _⟩
      case measure => have := HLT.out; simp [intOf]; omega
    · have hk9 : (len : Int) ≤ k := by omega
      have S8 := Lib.hid (S7.out.fresh hbe)
      have R1 := Lib.hid (R1.out.keep hbe)
      have R6 := Lib.hid (R6.out.keep hbe)
      have C := KST.out _ wr S8.out
      have C2 := intsEq wr a1 a6 LA.length q1 q6 LA R1.out R6.out H1.out
      clear hbe hlt hk KST KRA KLA KWA KSA KTA KCE R1 R6 R7
      cases lost with
      | true =>
        have hs := HSV.out rfl
        subst hs
        go_wp2_with fail
        refine C.mono ?_
        clear C
        rintro e w' ⟨rfl, rfl⟩
        go_wp2_with fail
        refine C2.mono ?_
        clear C2
        rintro e w5 ⟨rfl, b5⟩
        have HB5 := Lib.hid (S8.out.b.trans (b5.mono S8.out.b.size))
        clear b5
        go_wp2
        go_ret
        exact ⟨rfl, HB5.out⟩
      | false =>
        go_wp2_with fail
        refine C.mono ?_
        clear C
        rintro e w' ⟨rfl, rfl⟩
        go_wp2_with fail
        refine C2.mono ?_
        clear C2
        rintro e w5 ⟨rfl, b5⟩
        have HB5 := Lib.hid (S8.out.b.trans (b5.mono S8.out.b.size))
        clear b5
        go_wp2
        go_ret
        exact ⟨rfl, HB5.out⟩

set_option maxRecDepth 100000 in
set_option maxHeartbeats 16000000 in
theorem looksWalk {w : World} (ao : Option Addr) (len cap : Nat) (zs : List Int) (age : Int) (ac : Option Addr) (nc cc : Nat) (xs : List Int) (hz : ArgInt64s w ao len cap zs) (hb : BigL zs) (_ : len ≤ 140737488351232) (_ : -9223372036854775808 ≤ age) (_ : age ≤ 9223372036854775807) (hx : ArgBytes w ac nc cc xs) (_ : nc ≤ 140737488351232) :
    Calls Try.prog 8 #[.slice ao len cap, .int .i64 age, .slice ac nc cc] w fun e w' => e = .returned (.bool true) ∧ Below w.heap.size w w' := by
  have HZ := Lib.hid hz
  have HX := Lib.hid hx
  have HBG := Lib.hid hb
  clear hz hx hb
  by_cases hl : 150 < len
  · have l0 : (150 : Int) < len := by omega
    go_enter Try.func8, Try.ntmps8
    go_wp2_with fail
    refine (known w).mono ?_
    rintro e w1 ⟨rfl, b1⟩
    have HB := Lib.hid b1
    clear b1
    go_wp2
    go_ret
    exact ⟨rfl, HB.out⟩
  by_cases hc : 150 < nc
  · have l0 : (len : Int) ≤ 150 := by omega
    have l1 : (150 : Int) < nc := by omega
    go_enter Try.func8, Try.ntmps8
    go_wp2_with fail
    refine (known w).mono ?_
    rintro e w1 ⟨rfl, b1⟩
    have HB := Lib.hid b1
    clear b1
    go_wp2
    go_ret
    exact ⟨rfl, HB.out⟩
  have l0 : (len : Int) ≤ 150 := by omega
  have l1 : (nc : Int) ≤ 150 := by omega
  have HL := Lib.hid (show len ≤ 200 by omega)
  have HC := Lib.hid (show nc ≤ 200 by omega)
  clear hl hc
  go_enter Try.func8, Try.ntmps8
  go_wp2_with fail
  refine (known w).mono ?_
  rintro e w1 ⟨rfl, b1⟩
  have HB1 := Lib.hid b1
  have HX1 := Lib.hid (show ArgBytes w1 ac nc cc xs from ⟨HX.out.1.keep b1, HX.out.2⟩)
  have C := looksAll ao len cap zs (HZ.out.1.keep b1) HL.out HBG.out age
  clear b1
  go_wp2_with fail
  refine C.mono ?_
  clear C
  rintro e w2 ⟨rfl, b2⟩
  have HX2 := Lib.hid (show ArgBytes w2 ac nc cc xs from ⟨HX1.out.1.keep b2, HX1.out.2⟩)
  have HB2 := Lib.hid (HB1.out.trans (b2.mono HB1.out.size))
  clear b2 HX1 HB1
  go_wp2_with fail
  refine (cellsAll w2 ac nc cc xs HX2.out HC.out).mono ?_
  rintro e w3 ⟨a3, c3, y3, rfl, n3, o3, g3⟩
  have r3 := reads_own o3.1
  have HB3 := Lib.hid (HB2.out.trans (o3.2.mono HB2.out.size))
  have C := looksAll a3 y3.length c3 y3 r3 (by omega) g3 age
  clear o3 r3 g3 HX2 HB2 n3
  go_wp2_with fail
  refine C.mono ?_
  clear C
  rintro e w4 ⟨rfl, b4⟩
  have HB4 := Lib.hid (HB3.out.trans (b4.mono HB3.out.size))
  clear b4 HB3
  go_wp2
  go_ret
  exact ⟨rfl, HB4.out⟩

end Go.Proofs.Ytllgcnljpehgeaa.M2
