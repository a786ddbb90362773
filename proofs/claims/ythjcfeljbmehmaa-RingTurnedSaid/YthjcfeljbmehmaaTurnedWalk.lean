/-
  The walk of RingTurned: for all numbers and bytes it answers true and leaves all old memory as it was.
-/
import Derived.Test.YthjcfeljbmehmaaTurned
namespace Go.Proofs.Ythjcfeljbmehmaa
open Go.RowKit

/-- Blocks of either one. -/
def Both (F G : Nat → Prop) : Nat → Prop := fun g => F g ∨ G g

/-- Two deques that know nothing of one another, and what became of the blocks F and G. -/
structure Two (w a : World) (F G F' G' : Nat → Prop) (p q : Nat) (n : Int) (zs zt : List Int) (b : World) : Prop where
  s : At w F' p n zs b
  t : At w G' q n zt b
  st : Apart F' G'
  wr : Wrote (Both F G) a b
  lf : Later F F' a
  lg : Later G G' a

section
variable {w a b c : World} {F G F' G' : Nat → Prop} {p q : Nat} {n : Int} {zs zt zs' : List Int}
theorem Two.fresh (h : Two w a F G F' G' p q n zs zt b) (hb : Below b.heap.size b c) : Two w a F G F' G' p q n zs zt c := ⟨h.s.fresh hb, h.t.fresh hb, h.st, h.wr.trans (Wrote.of hb _), h.lf, h.lg⟩
theorem Two.nextS (h : Two w a F G F' G' p q n zs zt b) (d : Did F' p n zs' b c) : ∃ F'', Two w a F G F'' G' p q n zs' zt c := by
  obtain ⟨k1, F'', k2, k3, k4, k5⟩ := h.t.apart h.s h.st.symm d
  exact ⟨F'', k2, k1, k3.symm, h.wr.step (fun g hg => (h.lf g hg).imp .inl id) k4, h.lf.trans k5 h.wr.size, h.lg⟩
theorem Two.nextT (h : Two w a F G F' G' p q n zs zt b) (d : Did G' q n zs' b c) : ∃ G'', Two w a F G F' G'' p q n zs zs' c := by
  obtain ⟨k1, G'', k2, k3, k4, k5⟩ := h.s.apart h.t h.st d
  exact ⟨G'', k1, k2, k3, h.wr.step (fun g hg => (h.lg g hg).imp .inr id) k4, h.lf, h.lg.trans k5 h.wr.size⟩
end

/-- What holds at each round's head. -/
def TurnedRel (w a : World) (F G : Nat → Prop) (p q : Nat) (m : Int) (len : Nat) (i : Value) (wr : World) : Prop :=
  ∃ (k : Nat) (F' G' : Nat → Prop) (zs : List Int), k ≤ len ∧ i = .int .i64 k ∧ Two w a F G F' G' p q m zs zs.reverse wr

theorem opsL_five (xs : List Int) : ∀ o ∈ opsL 5 xs, 1 ≤ o.1 ∧ o.1 ≤ 5 := by
  intro o ho
  simp only [opsL, List.mem_map] at ho
  obtain ⟨x, _, rfl⟩ := ho
  simp only [opOf]
  omega

set_option maxRecDepth 100000 in
set_option maxHeartbeats 16000000 in
theorem turnedWalk {w : World} (most : Int) (ao : Option Addr) (len cap : Nat) (xs : List Int) (m0 : 0 ≤ most) (m1 : most ≤ 255) (hx : ArgBytes w ao len cap xs) (hlen : len ≤ 140737488351232) :
    Calls Try.prog 4 #[.int .u8 most, .slice ao len cap] w fun e w' => e = .returned (.bool true) ∧ Below w.heap.size w w' := by
  have hq := eqSelf
  have HX := Lib.hid hx.1
  have HY := Lib.hid hx.2.2.2
  clear hx
  obtain ⟨m, hm⟩ : ∃ m, mostOf (most % 9) = m := ⟨_, rfl⟩
  have CN := fun W => newAny (most % 9) W
  simp only [hm] at CN
  clear hm
  have HCN := Lib.hid CN
  clear CN
  go_enter Try.func4, Try.ntmps4
  go_wp2_with fail
  refine (HCN.out w).mono ?_
  rintro e w1 ⟨p, rfl, s1, b1⟩
  have HA1 := Lib.hid (At.new s1 b1)
  clear s1 b1
  go_wp2_with fail
  refine (HCN.out w1).mono ?_
  clear HCN
  rintro e w2 ⟨q, rfl, s2, b2⟩
  have HA2 := Lib.hid (HA1.out.fresh b2)
  have HT2 := Lib.hid (show At w (New w1 w2) q m [] w2 from ⟨s2, HA2.out.2.1, fun _ hg => Nat.le_trans HA1.out.2.1.size hg.1⟩)
  have HP2 := Lib.hid (New.apart (w := w1) (w' := w2) HA1.out.lt)
  clear s2 b2 HA1
  have C := opsAny w2 ao len cap xs 5 (HX.out.keep HA2.out.2.1) HY.out (by omega) (by omega) (by omega)
  go_wp2_with fail
  refine C.mono ?_
  clear C
  rintro e a ⟨oo, oc, rfl, o2, of2, b3⟩
  have HTW := Lib.hid (show Two w a (New w w1) (New w1 w2) (New w w1) (New w1 w2) p q m [] [] a from ⟨HA2.out.fresh b3, HT2.out.fresh b3, HP2.out, Wrote.refl _ _, Later.refl _ _, Later.refl _ _⟩)
  have HO := Lib.hid o2
  have HOF := Lib.hid (show Off (Both (New w w1) (New w1 w2)) oo from fun x hx hg => by
    have h1 := of2 x hx
    rcases hg with h | h
    · have := HA2.out.lt _ h; omega
    · have := HT2.out.lt _ h; omega)
  have HK := Lib.hid (opsL_five xs)
  have HO8 := opsL_len 5 xs
  clear o2 of2 b3 HA2 HT2 HP2 HX HY
  generalize New w w1 = F at *
  generalize New w1 w2 = G at *
  generalize opsL 5 xs = os at *
  obtain ⟨ol, hol⟩ : ∃ ol, os.length = ol := ⟨_, rfl⟩
  rw [hol] at HO ⊢
  have HOL := Lib.hid hol
  have h80 : ol ≤ 80 := by rw [← hol]; exact HO8
  clear hol HO8
  have HS := Lib.hid (show TurnedRel w a F G p q m ol (.int .i64 0) a from ⟨0, F, G, [], Nat.zero_le _, rfl, HTW.out⟩)
  clear HTW
  go_wp2
  go_loopw [8] (fun i wr => TurnedRel w a F G p q m ol i wr) (fun i _ => ol - (intOf i).toNat)
  case atStart => exact HS.out
  case round =>
    obtain ⟨k, F', G', zs, hk, rfl, htw⟩ := hrel
    have HTW := Lib.hid htw
    clear HS htw
    by_cases hlt : k < ol
    · have hkl : k < os.length := by rw [HOL.out]; exact hlt
      obtain ⟨b, off, rfl, bl, hc⟩ := HO.out.2 (by omega)
      have HOA := Lib.hid (fun (W : World) (hw : Wrote (Both F G) a W) => show W.cell? ⟨b, off + k * 2, none⟩ = some (.int .u8 (os.getD k (0, 0)).1) ∧ W.cell? ⟨b, off + k * 2 + 1, none⟩ = some (.int .i32 (os.getD k (0, 0)).2) from ⟨(hw.cell (p := ⟨b, off + k * 2, none⟩) bl (show ¬ Both F G b from HOF.out ⟨b, off, none⟩ rfl)).trans (hc k hlt).1, (hw.cell (p := ⟨b, off + k * 2 + 1, none⟩) bl (show ¬ Both F G b from HOF.out ⟨b, off, none⟩ rfl)).trans (hc k hlt).2⟩)
      have ho : 1 ≤ (os.getD k (0, 0)).1 ∧ (os.getD k (0, 0)).1 ≤ 5 := by simpa [List.getD, hkl] using HK.out os[k] (List.getElem_mem hkl)
      have i0 : (k : Int) < ol := by omega
      clear hc hkl
      generalize (os.getD k (0, 0)).1 = o1 at *
      generalize (os.getD k (0, 0)).2 = o2 at *
      obtain ⟨o1a, o1b⟩ := ho
      have E := turn_do m zs o1 o2
      have HDS := Lib.hid (fun (W : World) (F : Nat → Prop) (h : Rng W F p m zs) => doAny h o1 o2)
      have HDT := Lib.hid (fun (W : World) (F : Nat → Prop) (h : Rng W F q m zs.reverse) => by have := doAny h (turnK o1) o2; rwa [E.1, E.2.1, E.2.2] at this)
      have HCT := Lib.hid (fun (W : World) => turnedAny W o1 o2 o1a o1b)
      clear E o1a o1b
      generalize turnK o1 = t1 at *
      generalize dqL m zs o1 o2 = zs2 at *
      generalize dqC m zs o1 = rc at *
      generalize dqV zs o1 = rv at *
      have HT0 := Lib.hid (HTW.out.fresh (Below.refl _ wr).drew)
      obtain ⟨y0, y1⟩ := HOA.out wr HTW.out.wr
      have C := HDS.out wr.drew F' HT0.out.s.1
      clear HDS HTW
      go_wp2
      go_region_held3 (fun w' => w'.cell? ⟨b, off + k * 2, none⟩ = some (.int .u8 o1) ∧ w'.cell? ⟨b, off + k * 2 + 1, none⟩ = some (.int .i32 o2)) (first | exact ⟨y0, y1⟩ | exact ⟨h0, h1⟩ | exact ⟨i1, i2⟩ | exact ⟨j1, j2⟩) (first
        | (go_at_call 15; (with_reducible refine (HCT.out _).mono ?_); rintro e w5 ⟨rfl, b5⟩; have HT5 := Lib.hid (HT4.out.fresh b5); obtain ⟨i1, i2⟩ := HOA.out w5 HT5.out.wr; have C2 := HDT.out w5 _ HT5.out.t.1; clear b5)
        | (go_at_call 14; (with_reducible refine C2.mono ?_); rintro e w6 ⟨rfl, d6⟩; obtain ⟨G6, t6⟩ := HT5.out.nextT d6; have H6 := Lib.hid (show TurnedRel w a F G p q m ol (.int .i64 ((k : Int) + 1)) w6 from ⟨k + 1, F4, G6, zs2, by omega, by go_num, t6⟩); obtain ⟨j1, j2⟩ := HOA.out w6 t6.wr; clear d6 t6)
        | (go_at_call 14; (with_reducible refine C.mono ?_); rintro e w4 ⟨rfl, d4⟩; obtain ⟨F4, t4⟩ := HT0.out.nextS d4; have HT4 := Lib.hid t4; obtain ⟨h0, h1⟩ := HOA.out w4 t4.wr; clear d4 t4))
      all_goals go_wp2
      go_roundw
      case rel => exact H6.out
      case measure => simp [intOf]; omega
    · obtain rfl : k = ol := by omega
      clear HO HOF HK HOL
      obtain ⟨j, hj⟩ : ∃ j, zs.length = j := ⟨_, rfl⟩
      have hj1 : j ≤ 1000 := by have := HTW.out.s.1.len; omega
      have HJ := Lib.hid hj
      clear hj
      have C := itemsBeside HTW.out.s.1 j HJ.out
      go_wp2_with fail
      refine C.mono ?_
      clear C
      rintro e w7 ⟨rfl, k7, b7⟩
      have HT7 := Lib.hid (HTW.out.fresh b7)
      have HK7 := Lib.hid k7.1
      clear k7 b7 HTW
      have C := itemsBeside HT7.out.t.1 j (by rw [List.length_reverse, HJ.out])
      go_wp2_with fail
      refine C.mono ?_
      clear C
      rintro e w8 ⟨rfl, k8, b8⟩
      have HK8 := Lib.hid (HK7.out.keep b8)
      have HL8 := Lib.hid k8.1
      have HB8 := Lib.hid (HT7.out.fresh b8).s.2.1
      clear k8 b8 HT7 HK7
      generalize wr.heap.size = A at *
      generalize w7.heap.size = B at *
      go_wp2
      go_loopw [11] (fun i wr => ∃ k : Nat, k ≤ j ∧ i = .int .i64 k ∧ Below w8.heap.size w8 wr) (fun i _ => j - (intOf i).toNat)
      case atStart => exact ⟨0, Nat.zero_le _, rfl, Below.refl _ _⟩
      case round =>
        obtain ⟨t, ht, rfl, hbe⟩ := hrel
        have HE := Lib.hid hbe
        by_cases hlt : t < j
        · obtain ⟨b1, o1, e1, l1, h1⟩ := (HK8.out.keep hbe).2 (by omega)
          obtain ⟨b2, o2, e2, l2, h2⟩ := (HL8.out.keep hbe).2 (by omega)
          simp only [Option.some.injEq, Addr.mk.injEq, and_true] at e1 e2
          obtain ⟨rfl, rfl⟩ := e1
          obtain ⟨rfl, rfl⟩ := e2
          have c1 := h1 t hlt
          have c2 := h2 (j - 1 - t) (by omega)
          rw [show zs.reverse.getD (j - 1 - t) 0 = zs.getD t 0 from by
            have hl := HJ.out
            simp only [List.getD]
            rw [List.getElem?_reverse (by omega), show zs.length - 1 - (j - 1 - t) = t by omega]] at c2
          simp only [Nat.zero_add] at c1 c2
          obtain ⟨u, hu⟩ : ∃ u, j - 1 - t = u := ⟨_, rfl⟩
          rw [hu] at c2
          have i0 : (t : Int) < j := by omega
          have i1 : (u : Int) < j := by omega
          have s1 : IntKind.i64.wrap ((j : Int) - 1) = ((j - 1 : Nat) : Int) := by rw [IntKind.wrap_i64]; omega
          have s2 : IntKind.i64.wrap (((j - 1 : Nat) : Int) - (t : Int)) = (u : Int) := by rw [IntKind.wrap_i64]; omega
          clear h1 h2 hbe hu
          generalize j - 1 = j1 at *
          generalize zs.getD t 0 = y at *
          go_wp2
          go_quiet (fail)
          clear s1 s2
          go_wp2
          go_roundw
          case rel => exact ⟨t + 1, by omega, by go_num, below_drewN HE.out _⟩
          case measure => simp [intOf]; omega
        · clear hbe
          go_wp2_with fail
          refine (known _).mono ?_
          rintro e w9 ⟨rfl, b9⟩
          have HB9 := Lib.hid (HB8.out.trans ((HE.out.mono HB8.out.size).trans (b9.mono (Nat.le_trans HB8.out.size HE.out.size))))
          clear b9
          go_wp2
          go_ret
          exact ⟨rfl, HB9.out⟩

end Go.Proofs.Ythjcfeljbmehmaa
