/-
  reaperlaw14.asks answers true, whatever the numbers and the age. Conditions: at most 200 numbers, none above the greatest int64.
-/
import Derived.Test.YtllgcnljpehgeaaRefS14m
import Derived.Test.YtllgcnljpehgeaaRefT14m
import Derived.Test.YtllgcnljpehgeaaRefW14m
import Derived.Test.YtllgcnljpehgeaaMemoWalk14m
namespace Go.Proofs.Ytllgcnljpehgeaa.M2
open Go.RowKit

set_option maxHeartbeats 1600000 in
theorem intsEq (w : World) (a b : Option Addr) (n c d : Nat) (zs : List Int) (ha : Reads .i64 w a n zs) (hb : Reads .i64 w b n zs) (hl : n ≤ 1000) :
    Calls Try.prog 15 #[.slice a n c, .slice b n d] w fun e w' => e = .returned (.bool true) ∧ Below w.heap.size w w' := by
  have HA := Lib.hid ha
  have HB := Lib.hid hb
  clear ha hb
  go_enter Try.func15, Try.ntmps15
  go_wp2
  go_loopw [5] (fun i wr => ∃ k : Nat, k ≤ n ∧ i = .int .i64 k ∧ Below w.heap.size w wr) (fun i _ => n - (intOf i).toNat)
  case atStart => exact ⟨0, Nat.zero_le _, rfl, Below.refl _ _⟩
  case round =>
    obtain ⟨k, hk, rfl, hbe⟩ := hrel
    have HE := Lib.hid hbe
    by_cases hlt : k < n
    · obtain ⟨b1, o1, rfl, l1, h1⟩ := (HA.out.keep hbe).2 (by omega)
      obtain ⟨b2, o2, rfl, l2, h2⟩ := (HB.out.keep hbe).2 (by omega)
      have c1 := h1 k hlt
      have c2 := h2 k hlt
      have i0 : (k : Int) < n := by omega
      clear h1 h2 hbe
      generalize zs.getD k 0 = e1 at *
      go_wp2
      go_quiet (fail)
      go_wp2
      go_roundw
      case rel => exact ⟨k + 1, by omega, by go_num, below_drewN HE.out _⟩
      case measure => simp [intOf]; omega
    · clear hbe
      go_wp2
      go_ret
      exact ⟨rfl, HE.out⟩

/-- The memory, and the document's one in a box. -/
structure ST (w : World) (n p : Nat) (u : Value) (zs : List Int) (g : Nat) (W : World) : Prop where
  m : Mem1 W w.heap.size p zs.length zs (1 + (zs.length : Int))
  o : W.ownsRow w.heap.size 2 1 u zs.length (zs.map (Value.int .i64))
  r : Boxed W g (.int .i64 (n : Int)) u (.int .i64 (1 + (n : Int)))
  b : Below w.heap.size w W

theorem ST.fresh {w W V : World} {n p g : Nat} {u : Value} {zs : List Int} (h : ST w n p u zs g W) (hb : Below W.heap.size W V) : ST w n p u zs g V :=
  ⟨h.m.keep hb, own_keep h.o hb, h.r.keep hb, h.b.trans (hb.mono h.b.size)⟩

theorem soundV_in (zs : List Int) (ps : List Nat) (lost : Bool) : 0 ≤ soundV zs ps lost ∧ soundV zs ps lost ≤ 33 := by
  unfold soundV
  split
  · omega
  split
  · omega
  split <;> omega

set_option maxRecDepth 100000 in
set_option maxHeartbeats 16000000 in
theorem asksAll {w : World} (ao : Option Addr) (len cap : Nat) (zs : List Int) (hz : Reads .i64 w ao len zs) (hl : len ≤ 200) (hM : ∀ z ∈ zs, z ≤ 9223372036854775807) (age : Int) :
    Calls Try.prog 10 #[.slice ao len cap, .int .i64 age] w fun e w' => e = .returned (.bool true) ∧ Below w.heap.size w w' := by
  obtain rfl : zs.length = len := hz.1
  obtain ⟨ps, lost, hP⟩ := path_any zs hM
  have hpl : ps.length ≤ 200 := by have := hP.len; unfold mn at this; omega
  have hml : mn zs.length ≤ 200 := by unfold mn; omega
  have HMD := Lib.hid (memoryAny w ao zs.length cap zs hz hl)
  obtain ⟨len, hlen⟩ : ∃ n, zs.length = n := ⟨_, rfl⟩
  have HST := fun (p : Nat) (u : Value) (g : Nat) (V : World) (h : ST w len p u zs g V) => (show Calls Try.prog 28 #[.pointer (some ⟨p, 0, none⟩)] V fun e w' => e = .returned (.int .i64 (1 + (len : Int))) ∧ V = w' by have C := steps1 h.m; rw [hlen] at C; exact C)
  have HRA := fun (p : Nat) (u : Value) (g : Nat) (V : World) (h : ST w len p u zs g V) => show Calls _ _ _ V (fun e w' => ∃ v, e = .returned (.tuple #[v, .bool (!lost)]) ∧ IntsNew V (if lost then [] else ints ps) v w') from reachAny h.m hP
  have HRB := fun (p : Nat) (u : Value) (g : Nat) (V : World) (h : ST w len p u zs g V) => show Calls _ _ _ V (fun e w' => ∃ v, e = .returned (.tuple #[v, .bool (!lost)]) ∧ IntsNew V (if lost then [] else ints ps) v w') from refReach (size := (len : Int)) (st := 1 + (len : Int)) h.o (by omega) hP
  have HLA := fun (p : Nat) (u : Value) (g : Nat) (V : World) (h : ST w len p u zs g V) => recordsAny h.m
  have HLB := fun (p : Nat) (u : Value) (g : Nat) (V : World) (h : ST w len p u zs g V) => refRecords (size := (len : Int)) (st := 1 + (len : Int)) h.o (by omega)
  have HWA := fun (p : Nat) (u : Value) (g : Nat) (V : World) (h : ST w len p u zs g V) => waitingAny h.m
  have HWB := fun (p : Nat) (u : Value) (g : Nat) (V : World) (h : ST w len p u zs g V) => refWaiting (size := (len : Int)) (st := 1 + (len : Int)) h.o (by omega)
  have HSA := fun (p : Nat) (u : Value) (g : Nat) (V : World) (h : ST w len p u zs g V) => staleLAny h.m hP age
  have HSB := fun (p : Nat) (u : Value) (g : Nat) (V : World) (h : ST w len p u zs g V) => refStale (size := (len : Int)) (st := 1 + (len : Int)) h.o (by omega) hP age
  have HTA := fun (p : Nat) (u : Value) (g : Nat) (V : World) (h : ST w len p u zs g V) => soundAny h.m hP
  have HTB := fun (p : Nat) (u : Value) (g : Nat) (V : World) (h : ST w len p u zs g V) => refSound (size := (len : Int)) (st := 1 + (len : Int)) h.o (by omega) hP
  have h1 : (if lost then [] else ints ps).length ≤ 1000 := by cases lost <;> simp [ints_len]; omega
  have h2 : (recK (mn zs.length)).length ≤ 1000 := by rw [recK_len]; omega
  have h3 : (waitK zs (mn zs.length)).length ≤ 1000 := Nat.le_trans (waitK_len _ _) (by omega)
  have h4 : (if lost then [] else staleK zs ps age ps.length).length ≤ 1000 := by
    cases lost
    · exact Nat.le_trans (staleK_len _ _ _ _) (by omega)
    · simp
  obtain ⟨sv, hsv⟩ : ∃ sv, soundV zs ps lost = sv := ⟨_, rfl⟩
  have h5 := soundV_in zs ps lost
  simp only [hsv] at HTA HTB h5
  generalize recK (mn zs.length) = LR at *
  generalize waitK zs (mn zs.length) = LW at *
  generalize (if lost then [] else staleK zs ps age ps.length) = LS at *
  generalize (if lost then [] else ints ps) = LA at *
  have KST := Lib.hid HST
  have KRA := Lib.hid HRA
  have KRB := Lib.hid HRB
  have KLA := Lib.hid HLA
  have KLB := Lib.hid HLB
  have KWA := Lib.hid HWA
  have KWB := Lib.hid HWB
  have KSA := Lib.hid HSA
  have KSB := Lib.hid HSB
  have KTA := Lib.hid HTA
  have KTB := Lib.hid HTB
  have H1 := Lib.hid h1
  have H2 := Lib.hid h2
  have H3 := Lib.hid h3
  have H4 := Lib.hid h4
  obtain ⟨t0, t1⟩ := h5
  have hw1 : IntKind.i64.wrap sv = sv := IntWalk.i64_in _ (by omega)
  have hw2 : wrap64 sv = sv := by rw [← IntWalk.i64_left]; exact hw1
  have HE := Lib.hid hlen
  generalize hlo : (!lost) = lo at *
  rw [hlen] at HMD ⊢
  clear HST HRA HRB HLA HLB HWA HWB HSA HSB HTA HTB h1 h2 h3 h4 hlen hz hl hM hP hpl hml hsv hlo
  go_enter Try.func10, Try.ntmps10
  go_wp2_with fail
  refine HMD.out.mono ?_
  clear HMD
  rintro e w1 ⟨p, u, rfl, m1, o1, b1⟩
  obtain ⟨au, cu, eu⟩ := ownShape o1
  rw [HE.out] at eu ⊢
  subst eu
  go_upto_region 2 with (fail)
  generalize hW2 : w1.alloc (.cells #[.int .i64 (len : Int), .slice au len cu, .int .i64 (1 + (len : Int))] 33) = W2
  have f2 : Below w1.heap.size w1 W2 := by subst hW2; exact (Below.refl _ _).alloc (Nat.le_refl _) _
  have S0 := Lib.hid (show ST w len p (.slice au len cu) zs w1.heap.size W2 from ⟨m1.keep f2, own_keep o1 f2, by subst hW2; exact Boxed.new _ _ _ _, b1.trans (f2.mono b1.size)⟩)
  clear m1 o1 b1 f2 hW2
  generalize w1.heap.size = g at *
  go_wp2_with fail
  refine (KRA.out _ _ _ W2 S0.out).mono ?_
  rintro e W3 ⟨v, rfl, a1, q1, rfl, h1, b1⟩
  have R1 := Lib.hid h1
  have S1 := Lib.hid (S0.out.fresh b1)
  clear h1 b1 S0
  have c0 := S1.out.r.c0
  have c1 := S1.out.r.c1
  have c2 := S1.out.r.c2
  go_wp2_with fail
  refine (KRB.out _ _ _ W3 S1.out).mono ?_
  clear c0 c1 c2
  rintro e W4 ⟨v, rfl, a2, q2, rfl, h2, b2⟩
  have R2 := Lib.hid h2
  have R1 := Lib.hid (R1.out.keep b2)
  have S2 := Lib.hid (S1.out.fresh b2)
  clear h2 b2 S1
  go_wp2_with fail
  refine (KST.out _ _ _ W4 S2.out).mono ?_
  rintro e w' ⟨rfl, rfl⟩
  have hd := (Below.refl W4.heap.size W4).drew
  have S3 := Lib.hid (S2.out.fresh hd)
  have C1 := Lib.hid (intsEq W4.drew a1 a2 LA.length q1 q2 LA (R1.out.keep hd) (R2.out.keep hd) H1.out)
  have i0 := S2.out.r.c0
  have i1 := S2.out.r.c1
  have i2 := S2.out.r.c2
  have j0 := S3.out.r.c0
  have j1 := S3.out.r.c1
  have j2 := S3.out.r.c2
  clear hd R1 R2
  go_wp2
  go_region_held3 (fun w' => w'.cell? ⟨g, 0, none⟩ = some (.int .i64 (len : Int)) ∧ w'.cell? ⟨g, 1, none⟩ = some (.slice au len cu) ∧ w'.cell? ⟨g, 2, none⟩ = some (.int .i64 (1 + (len : Int)))) (first | with_reducible exact ⟨k12, l12, m12⟩ | with_reducible exact ⟨k11, l11, m11⟩ | with_reducible exact ⟨k10, l10, m10⟩ | with_reducible exact ⟨k9, l9, m9⟩ | with_reducible exact ⟨k8, l8, m8⟩ | with_reducible exact ⟨k7, l7, m7⟩ | with_reducible exact ⟨k6, l6, m6⟩ | with_reducible exact ⟨k5, l5, m5⟩ | with_reducible exact ⟨k4, l4, m4⟩ | with_reducible exact ⟨k3, l3, m3⟩ | with_reducible exact ⟨k2, l2, m2⟩ | with_reducible exact ⟨k1, l1, m1⟩ | with_reducible exact ⟨j0, j1, j2⟩ | with_reducible exact ⟨i0, i1, i2⟩) (first
    | ((with_reducible refine C12.out.mono ?_); rintro e V12 ⟨rfl, b12⟩; have S15 := Lib.hid (S14.out.fresh b12); have k12 := S15.out.r.c0; have l12 := S15.out.r.c1; have m12 := S15.out.r.c2; clear b12)
    | ((with_reducible refine C11.out.mono ?_); rintro e V11 ⟨rfl, b11⟩; have S14 := Lib.hid (S13.out.fresh b11); have k11 := S14.out.r.c0; have l11 := S14.out.r.c1; have m11 := S14.out.r.c2; have C12 := Lib.hid (KTB.out _ _ _ V11 S14.out); clear b11)
    | ((with_reducible refine C10.out.mono ?_); rintro e V10 ⟨rfl, b10⟩; have S13 := Lib.hid (S12.out.fresh b10); have k10 := S13.out.r.c0; have l10 := S13.out.r.c1; have m10 := S13.out.r.c2; have C11 := Lib.hid (KTA.out _ _ _ V10 S13.out); clear b10)
    | ((with_reducible refine C9.out.mono ?_); rintro e V9 ⟨v, rfl, a9, q9, rfl, h9, b9⟩; have R9 := Lib.hid h9; have S12 := Lib.hid (S11.out.fresh b9); have k9 := S12.out.r.c0; have l9 := S12.out.r.c1; have m9 := S12.out.r.c2; have R8 := Lib.hid (R8.out.keep b9); have C10 := Lib.hid (intsEq V9 a8 a9 LS.length q8 q9 LS R8.out R9.out H4.out); clear h9 b9)
    | ((with_reducible refine C8.out.mono ?_); rintro e V8 ⟨v, rfl, a8, q8, rfl, h8, b8⟩; have R8 := Lib.hid h8; have S11 := Lib.hid (S10.out.fresh b8); have k8 := S11.out.r.c0; have l8 := S11.out.r.c1; have m8 := S11.out.r.c2; have C9 := Lib.hid (KSB.out _ _ _ V8 S11.out); clear h8 b8)
    | ((with_reducible refine C7.out.mono ?_); rintro e V7 ⟨rfl, b7⟩; have S10 := Lib.hid (S9.out.fresh b7); have k7 := S10.out.r.c0; have l7 := S10.out.r.c1; have m7 := S10.out.r.c2; have C8 := Lib.hid (KSA.out _ _ _ V7 S10.out); clear b7)
    | ((with_reducible refine C6.out.mono ?_); rintro e V6 ⟨v, rfl, a6, q6, rfl, h6, b6⟩; have R6 := Lib.hid h6; have S9 := Lib.hid (S8.out.fresh b6); have k6 := S9.out.r.c0; have l6 := S9.out.r.c1; have m6 := S9.out.r.c2; have R5 := Lib.hid (R5.out.keep b6); have C7 := Lib.hid (intsEq V6 a5 a6 LW.length q5 q6 LW R5.out R6.out H3.out); clear h6 b6)
    | ((with_reducible refine C5.out.mono ?_); rintro e V5 ⟨v, rfl, a5, q5, rfl, h5, b5⟩; have R5 := Lib.hid h5; have S8 := Lib.hid (S7.out.fresh b5); have k5 := S8.out.r.c0; have l5 := S8.out.r.c1; have m5 := S8.out.r.c2; have C6 := Lib.hid (KWB.out _ _ _ V5 S8.out); clear h5 b5)
    | ((with_reducible refine C4.out.mono ?_); rintro e V4 ⟨rfl, b4⟩; have S7 := Lib.hid (S6.out.fresh b4); have k4 := S7.out.r.c0; have l4 := S7.out.r.c1; have m4 := S7.out.r.c2; have C5 := Lib.hid (KWA.out _ _ _ V4 S7.out); clear b4)
    | ((with_reducible refine C3.out.mono ?_); rintro e V3 ⟨v, rfl, a3, q3, rfl, h3, b3⟩; have R3 := Lib.hid h3; have S6 := Lib.hid (S5.out.fresh b3); have k3 := S6.out.r.c0; have l3 := S6.out.r.c1; have m3 := S6.out.r.c2; have R2 := Lib.hid (R2.out.keep b3); have C4 := Lib.hid (intsEq V3 a2 a3 LR.length q2 q3 LR R2.out R3.out H2.out); clear h3 b3)
    | ((with_reducible refine C2.out.mono ?_); rintro e V2 ⟨v, rfl, a2, q2, rfl, h2, b2⟩; have R2 := Lib.hid h2; have S5 := Lib.hid (S4.out.fresh b2); have k2 := S5.out.r.c0; have l2 := S5.out.r.c1; have m2 := S5.out.r.c2; have C3 := Lib.hid (KLB.out _ _ _ V2 S5.out); clear h2 b2)
    | ((with_reducible refine C1.out.mono ?_); rintro e V1 ⟨rfl, b1⟩; have S4 := Lib.hid (S3.out.fresh b1); have k1 := S4.out.r.c0; have l1 := S4.out.r.c1; have m1 := S4.out.r.c2; have C2 := Lib.hid (KLA.out _ _ _ V1 S4.out); clear b1))
  all_goals
    go_wp2
    go_ret
    exact ⟨by simp, S15.out.b⟩

end Go.Proofs.Ytllgcnljpehgeaa.M2
