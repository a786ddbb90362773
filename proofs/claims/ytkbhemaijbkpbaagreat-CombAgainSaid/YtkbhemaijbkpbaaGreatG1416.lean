/-
  through of package ends: operations that come one behind the other to a row. Conditions: a row as Slots says; operations that lie in memory, beside it, at most a million. What Pairs of package ends answers. Conditions: operations that lie in memory, at most a million. What Spared of package ends answers, and the chapter's example. Conditions: operations that lie in memory, at most a million. metOf of package ends: which operations are pushes that a pop meets. Conditions: a row that says whom each of at most a million meets.
-/
import Derived.Test.YtkbhemaijbkpbaaGreatG1316
import Derived.Test.YtkbhemaijbkpbaaGreatQDAppPl10m
import Derived.Deep.CutRange
namespace Go.Proofs.YtkbhemaijbkpbaaGreat.D10
open Go.RowKit

/-- On the way, k of n are through. -/
structure TI (w0 : World) (p g h c n t : Nat) (most : Int) (s0 : List Int) (ks : Nat → Int) (k : Nat) (W : World) : Prop where
  row : Slots W p most g h n t k (dqAt most s0 ks k) (dpK most s0 ks n k)
  cod : Rw W c .u8 5 (dcK most s0 ks n k)
  wr : Wrote (Own3 p g h) w0 W
  cf : w0.heap.size ≤ c
  off : ¬ Own3 p g h c
  pf : ∀ x, Own3 p g h x → x < w0.heap.size

section
variable {w0 W W' : World} {p g h c n t k : Nat} {most : Int} {s0 : List Int} {ks : Nat → Int}
theorem TI.fresh (r : TI w0 p g h c n t most s0 ks k W) (hb : Below W.heap.size W W') : TI w0 p g h c n t most s0 ks k W' := by
  obtain ⟨h1, h2, h3, h4, h5, h6⟩ := r
  exact ⟨h1.fresh hb, h2.below hb, h3.trans (Wrote.of hb _), h4, h5, h6⟩
/-- Behind an operation whose code is not told yet: the row is one further. -/
structure TM (w0 : World) (p g h c n t : Nat) (most : Int) (s0 : List Int) (ks : Nat → Int) (k : Nat) (W : World) : Prop where
  row : Slots W p most g h n t (k + 1) (dqAt most s0 ks (k + 1)) (dpK most s0 ks n (k + 1))
  cod : Rw W c .u8 5 (dcK most s0 ks n k)
  wr : Wrote (Own3 p g h) w0 W
  cf : w0.heap.size ≤ c
  off : ¬ Own3 p g h c
  pf : ∀ x, Own3 p g h x → x < w0.heap.size
theorem TM.fresh (r : TM w0 p g h c n t most s0 ks k W) (hb : Below W.heap.size W W') : TM w0 p g h c n t most s0 ks k W' := by
  obtain ⟨h1, h2, h3, h4, h5, h6⟩ := r
  exact ⟨h1.fresh hb, h2.below hb, h3.trans (Wrote.of hb _), h4, h5, h6⟩
/-- The code is told. -/
theorem TM.tell (r : TM w0 p g h c n t most s0 ks k W) (hk : k < n) {z : Int} (hz : z = dqC most (dqAt most s0 ks k) (ks k)) : TI w0 p g h c n t most s0 ks (k + 1) (W.setCell ⟨c, k, none⟩ (.int .u8 z)) := by
  obtain ⟨h1, h2, h3, h4, h5, h6⟩ := r
  have hw : Wrote (fun x => x = c) W (W.setCell ⟨c, k, none⟩ (.int .u8 z)) := (Wrote.refl (fun x => x = c) W).setCell (q := ⟨c, k, none⟩) (.inr rfl) _
  refine ⟨h1.off hw (fun e => h5 (.inl e.symm)) (fun e => h5 (.inr (.inl e.symm))) (fun e => h5 (.inr (.inr e.symm))), ?_, h3.setCell (q := ⟨c, k, none⟩) (.inl h4) _, h4, h5, h6⟩
  rw [hz, ← dcK_put hk]
  exact h2.set k _
/-- What put or take has left. -/
theorem TI.next (r : TI w0 p g h c n t most s0 ks k W) {s' ds' : List Int} (hs : Slots W' p most g h n t (k + 1) s' ds') (hw : Wrote (Own3 p g h) W W') (e1 : s' = dqAt most s0 ks (k + 1)) (e2 : ds' = dpK most s0 ks n (k + 1)) : TM w0 p g h c n t most s0 ks k W' := by
  obtain ⟨h1, h2, h3, h4, h5, h6⟩ := r
  subst e1 e2
  exact ⟨hs, h2.keep (hw.block _ h2.lt h5), h3.trans hw, h4, h5, h6⟩
/-- Nothing becomes of the row. -/
theorem TI.idle (r : TI w0 p g h c n t most s0 ks k W) (hk : k < n) (e1 : dqAt most s0 ks (k + 1) = dqAt most s0 ks k) (e2 : dqP (dqAt most s0 ks k) (ks k) = -1) : TM w0 p g h c n t most s0 ks k W := by
  obtain ⟨h1, h2, h3, h4, h5, h6⟩ := r
  exact ⟨by rw [e1, ← dpK_same hk e2]; exact h1.stay, h2, h3, h4, h5, h6⟩
end

section
variable {w0 W : World} {p g h c n t k : Nat} {most : Int} {s0 : List Int} {ks : Nat → Int}
/-- What a call for one operation leaves. -/
def StepPost (w0 : World) (p g h c n t : Nat) (most : Int) (s0 : List Int) (ks : Nat → Int) (k : Nat) (e : Ending) (w' : World) : Prop :=
  ∃ z, e = .returned (.int .u8 z) ∧ z = dqC most (dqAt most s0 ks k) (ks k) ∧ TM w0 p g h c n t most s0 ks k w'

theorem putStep (r : TI w0 p g h c n t most s0 ks k W) (hk : k < n) (hn : n ≤ 1000000) (ht : t ≤ 1000) (right : Bool) (hkd : ks k = if right then 2 else 1) :
    Calls Tryz.prog 196 #[.pointer (some ⟨p, 0, none⟩), .int .i64 (if right then 1 else 0), .int .i64 k] W (StepPost w0 p g h c n t most s0 ks k) := by
  by_cases hf : ((dqAt most s0 ks k).length : Int) < most
  · cases right
    · simp only [Bool.false_eq_true, if_false] at hkd ⊢
      refine (putLeft r.row (by omega) ht hk hf).mono ?_
      rintro e w' ⟨rfl, h1, h2⟩
      refine ⟨1, rfl, by simp [dqC, hkd, hf], r.next h1 h2 (by simp [dqAt, dqL, hkd, hf]) ?_⟩
      exact dpK_same hk (by simp [dqP, hkd])
    · simp only [if_true] at hkd ⊢
      refine (putRight r.row (by omega) ht hk hf).mono ?_
      rintro e w' ⟨rfl, h1, h2⟩
      refine ⟨1, rfl, by simp [dqC, hkd, hf], r.next h1 h2 (by simp [dqAt, dqL, hkd, hf]) ?_⟩
      exact dpK_same hk (by simp [dqP, hkd])
  · refine (putFull r.row (by omega) ht (by omega) hf _ _).mono ?_
    rintro e w' ⟨rfl, hb⟩
    refine ⟨3, rfl, by cases right <;> simp [dqC, hkd, hf], (r.fresh hb).idle hk (by cases right <;> simp [dqAt, dqL, hkd, hf]) (by cases right <;> simp [dqP, hkd])⟩

theorem takeStep (r : TI w0 p g h c n t most s0 ks k W) (hk : k < n) (hn : n ≤ 1000000) (ht : t ≤ 1000) (right : Bool) (hkd : ks k = if right then 4 else 3) :
    Calls Tryz.prog 197 #[.pointer (some ⟨p, 0, none⟩), .int .i64 (if right then 1 else 0), .int .i64 k] W (StepPost w0 p g h c n t most s0 ks k) := by
  have hr := r.row
  generalize hs : dqAt most s0 ks k = s at *
  by_cases h0 : s = []
  · subst h0
    refine (takeNone hr (by omega) ht (by omega) _ _).mono ?_
    rintro e w' ⟨rfl, hb⟩
    refine ⟨4, rfl, by cases right <;> simp [dqC, hkd, hs], (r.fresh hb).idle hk (by cases right <;> simp [dqAt, dqL, hkd, hs]) (by cases right <;> simp [dqP, hkd, hs])⟩
  · cases right
    · simp only [Bool.false_eq_true, if_false] at hkd ⊢
      cases s with
      | nil => exact absurd rfl h0
      | cons z l =>
        refine (takeLeft hr (by omega) ht hk).mono ?_
        rintro e w' ⟨rfl, h1, h2⟩
        refine ⟨2, rfl, by simp [dqC, hkd, hs], r.next h1 h2 (by simp [dqAt, dqL, hkd, hs]) ?_⟩
        rw [← dpK_put hk]
        simp [dqP, hkd, hs]
    · simp only [if_true] at hkd ⊢
      rcases List.eq_nil_or_concat s with e | ⟨l, z, e⟩
      · exact absurd e h0
      · rw [List.concat_eq_append] at e
        subst e
        refine (takeRight hr (by omega) ht hk).mono ?_
        rintro e w' ⟨rfl, h1, h2⟩
        refine ⟨2, rfl, by simp [dqC, hkd, hs], r.next h1 h2 (by simp [dqAt, dqL, hkd, hs]) ?_⟩
        rw [← dpK_put hk]
        simp [dqP, hkd, hs]
end

/-- What through leaves. -/
def ThruPost (w : World) (p g h n t : Nat) (most : Int) (s0 : List Int) (ks : Nat → Int) (e : Ending) (w' : World) : Prop :=
  ∃ c, e = .returned (.slice (some ⟨c, 0, none⟩) n n) ∧ Rw w' c .u8 5 (dcL most s0 ks n) ∧ Slots w' p most g h n t n (dqAt most s0 ks n) (dpL most s0 ks n) ∧ Wrote (Own3 p g h) w w' ∧ w.heap.size ≤ c

set_option maxRecDepth 100000 in
set_option maxHeartbeats 8000000 in
theorem throughAny {w : World} {p g h n t : Nat} {most : Int} (r : Slots w p most g h n t 0 (List.replicate t (-1)) (List.replicate n (-1))) (pf : ∀ x, Own3 p g h x → x < w.heap.size) (ao : Option Addr) (cap : Nat) (os : List (Int × Int)) (ho : OpsAt w ao n os) (hoff : 0 < n → Off (Own3 p g h) ao) (hn : n ≤ 1000000) (ht : t ≤ 1000) :
    Calls Tryz.prog 195 #[.slice ao n cap, .func (Fn.func 196) #[.pointer (some ⟨p, 0, none⟩)] #[], .func (Fn.func 197) #[.pointer (some ⟨p, 0, none⟩)] #[]] w (ThruPost w p g h n t most (List.replicate t (-1)) (kindsOf os)) := by
  obtain ⟨j0, hj, hy0, hy1, hy2⟩ := info_parts infoU8
  have HO := Lib.hid ho
  have HR := Lib.hid r
  have HF := Lib.hid hoff
  have HP := Lib.hid pf
  clear ho r hoff pf
  go_enter Tryz.func195, Tryz.ntmps195
  go_wp2_with (at_make; refine wpList_make_full _ rfl _ _ 26 rfl w.heap.size 5 j0 _ 1 Tryz.underlying26 hj hy0 hy1 .i64 .i64 _ _ n rfl rfl rfl rfl (by rw [hy2]; omega) (by simp only [maxLen]; omega) (Nat.le_refl _) ?_; intro w2 hown2 hgrow2; have HM := Lib.hid (madeRow (k := .u8) hown2 hgrow2); clear hown2 hgrow2)
  have HI := Lib.hid (show TI w p g h w.heap.size n t most (List.replicate t (-1)) (kindsOf os) 0 w2 from ⟨by rw [dpK_none]; exact HR.out.fresh HM.out.2, by rw [dcK_none]; exact HM.out.1, Wrote.of HM.out.2 _, Nat.le_refl _, fun e => by have := HP.out _ e; omega, HP.out⟩)
  clear HM HR
  generalize hc : w.heap.size = c at *
  go_loopw [15] (fun i wr => ∃ k : Nat, k ≤ n ∧ i = .int .i64 k ∧ Hid (TI w p g h c n t most (List.replicate t (-1)) (kindsOf os) k wr)) (fun i _ => n - (intOf i).toNat)
  case atStart => exact ⟨0, Nat.zero_le _, rfl, HI⟩
  case round =>
    obtain ⟨k, hk, rfl, hp⟩ := hrel
    clear HI
    by_cases hlt : k < n
    · obtain ⟨b, off, rfl, hb, hcs⟩ := HO.out.2 (by omega)
      have hx := hcs k hlt
      have hob := hp.out.wr.block b hb (fun e => HF.out (by omega) _ rfl e)
      have x0 := (World.cell?_of_block (a := ⟨b, off + k * 2, none⟩) hob).trans hx.1
      have x1 := (World.cell?_of_block (a := ⟨b, off + k * 2 + 1, none⟩) hob).trans hx.2
      have HK := Lib.hid (show kindsOf os k = (os.getD k (0, 0)).1 from rfl)
      have i1 : (k : Int) < (n : Int) := by omega
      clear hx hob hcs
      generalize (os.getD k (0, 0)).1 = kd at *
      generalize (os.getD k (0, 0)).2 = v at *
      have HA := Lib.hid (hp.out.fresh (W' := wr.alloc (.cells #[.int .u8 kd, .int .i32 v] 38)) ((Below.refl _ _).alloc (Nat.le_refl _) _))
      have c1 := HA.out.cod.cell (i := k) (by rw [dcK_length hk]; exact hlt)
      have f1 := HA.out.cod.free k
      clear hp
      rcases (show kd = 1 ∨ kd = 2 ∨ kd = 3 ∨ kd = 4 ∨ (¬ kd = 1 ∧ ¬ kd = 2 ∧ ¬ kd = 3 ∧ ¬ kd = 4) by omega) with k1 | k2 | k3 | k4 | k5
      · subst k1
        have C := putStep (right := false) HA.out hlt hn ht HK.out
        simp only [Bool.false_eq_true, if_false] at C
        go_wp2_with fail
        refine C.mono ?_
        clear C
        rintro e w6 ⟨z6, rfl, hz, hm⟩
        have c6 := hm.cod.cell (i := k) (by rw [dcK_length hk]; exact hlt)
        have f6 := hm.cod.free k
        have HT := Lib.hid (hm.tell hlt hz)
        clear hm hz c1 f1
        generalize (dcK most (List.replicate t (-1)) (kindsOf os) n k).getD k 0 = z at *
        go_wp2
        go_roundw
        case rel => exact ⟨k + 1, by omega, by go_num, HT⟩
        case measure => simp [intOf]; omega
      · subst k2
        have C := putStep (right := true) HA.out hlt hn ht HK.out
        simp only [if_true] at C
        go_wp2_with fail
        refine C.mono ?_
        clear C
        rintro e w6 ⟨z6, rfl, hz, hm⟩
        have c6 := hm.cod.cell (i := k) (by rw [dcK_length hk]; exact hlt)
        have f6 := hm.cod.free k
        have HT := Lib.hid (hm.tell hlt hz)
        clear hm hz c1 f1
        generalize (dcK most (List.replicate t (-1)) (kindsOf os) n k).getD k 0 = z at *
        go_wp2
        go_roundw
        case rel => exact ⟨k + 1, by omega, by go_num, HT⟩
        case measure => simp [intOf]; omega
      · subst k3
        have C := takeStep (right := false) HA.out hlt hn ht HK.out
        simp only [Bool.false_eq_true, if_false] at C
        go_wp2_with fail
        refine C.mono ?_
        clear C
        rintro e w6 ⟨z6, rfl, hz, hm⟩
        have c6 := hm.cod.cell (i := k) (by rw [dcK_length hk]; exact hlt)
        have f6 := hm.cod.free k
        have HT := Lib.hid (hm.tell hlt hz)
        clear hm hz c1 f1
        generalize (dcK most (List.replicate t (-1)) (kindsOf os) n k).getD k 0 = z at *
        go_wp2
        go_roundw
        case rel => exact ⟨k + 1, by omega, by go_num, HT⟩
        case measure => simp [intOf]; omega
      · subst k4
        have C := takeStep (right := true) HA.out hlt hn ht HK.out
        simp only [if_true] at C
        go_wp2_with fail
        refine C.mono ?_
        clear C
        rintro e w6 ⟨z6, rfl, hz, hm⟩
        have c6 := hm.cod.cell (i := k) (by rw [dcK_length hk]; exact hlt)
        have f6 := hm.cod.free k
        have HT := Lib.hid (hm.tell hlt hz)
        clear hm hz c1 f1
        generalize (dcK most (List.replicate t (-1)) (kindsOf os) n k).getD k 0 = z at *
        go_wp2
        go_roundw
        case rel => exact ⟨k + 1, by omega, by go_num, HT⟩
        case measure => simp [intOf]; omega
      · obtain ⟨k1, k2, k3, k4⟩ := k5
        have hk1 := HK.out
        have hm := HA.out.idle hlt (by simp [dqAt, dqL, hk1, k1, k2, k3, k4]) (by simp [dqP, hk1, k3, k4])
        have HT := Lib.hid (hm.tell hlt (z := 5) (by simp [dqC, hk1, k1, k2, k3, k4]))
        clear hm hk1
        generalize (dcK most (List.replicate t (-1)) (kindsOf os) n k).getD k 0 = z at *
        go_wp2
        go_roundw
        case rel => exact ⟨k + 1, by omega, by go_num, HT⟩
        case measure => simp [intOf]; omega
    · obtain rfl : k = n := by omega
      clear hlt
      go_wp2
      go_ret
      have h6 := hp.out
      have h2 := h6.cod
      have h1 := h6.row
      rw [dcK_all] at h2
      rw [dpK_all] at h1
      exact ⟨c, rfl, h2, h1, h6.wr, by omega⟩

end Go.Proofs.YtkbhemaijbkpbaaGreat.D10
namespace Go.Proofs.YtkbhemaijbkpbaaGreat.D10
open Go.RowKit

/-- How many were there, as a Nat. -/
theorem haveN (x m : Int) (h0 : 0 ≤ m) (h1 : m ≤ 1000) : ∃ t : Nat, haveOf x m = (t : Int) ∧ t ≤ 1000 ∧ (t : Int) ≤ m := by
  have := haveOf_in x m h0
  exact ⟨(haveOf x m).toNat, by omega, by omega, by omega⟩

/-- What Pairs leaves. -/
def DqPost (w : World) (most there : Int) (ks : Nat → Int) (n : Nat) (e : Ending) (w' : World) : Prop :=
  ∃ gw gc, e = .returned (.tuple #[.slice (some ⟨gw, 0, none⟩) n n, .slice (some ⟨gc, 0, none⟩) n n]) ∧ Rw w' gw .i64 3 (dpL most (olds there) ks n) ∧ Rw w' gc .u8 5 (dcL most (olds there) ks n) ∧ w.heap.size ≤ gw ∧ w.heap.size ≤ gc ∧ gw ≠ gc ∧ Below w.heap.size w w'

set_option maxRecDepth 100000 in
set_option maxHeartbeats 3200000 in
theorem pairsAny (w : World) (x most : Int) (ao : Option Addr) (n cap : Nat) (os : List (Int × Int)) (ho : OpsAt w ao n os) (hn : n ≤ 1000000) :
    Calls Tryz.prog 185 #[.int .i64 x, .int .i64 most, .slice ao n cap] w (DqPost w (mostOf most) (haveOf x (mostOf most)) (kindsOf os) n) := by
  have HO := Lib.hid ho
  clear ho
  go_enter Tryz.func185, Tryz.ntmps185
  go_upto_region 1 with (fail)
  go_cut [1] from 10 to 12 (fun s wx => s = .int .i64 (mostOf most) ∧ w = wx)
  case first =>
    rcases mostOf_cases most with ⟨h, he⟩ | ⟨h, he⟩ | ⟨h, he⟩ | ⟨h, he⟩ | ⟨h, he⟩
    · have HE := Lib.hid he
      have h2 : ¬ 0 < most := by omega
      have h3 : ¬ 0 ≤ most := by omega
      clear he
      go_wp2_with fail
      go_meet
      exact ⟨by rw [HE.out], rfl⟩
    · subst h
      have HE := Lib.hid he
      clear he
      go_wp2_with fail
      go_meet
      exact ⟨by rw [HE.out], rfl⟩
    · obtain ⟨h1, h2⟩ := h
      have HE := Lib.hid he
      clear he
      have h3 : ¬ most < 0 := by omega
      have h4 : ¬ 1000 < most := by omega
      go_wp2_with fail
      go_meet
      exact ⟨by rw [HE.out], rfl⟩
    · subst h
      have HE := Lib.hid he
      clear he
      go_wp2_with fail
      go_meet
      exact ⟨by rw [HE.out], rfl⟩
    · have HE := Lib.hid he
      clear he
      have h2 : ¬ most < 0 := by omega
      have h3 : ¬ most < 1000 := by omega
      go_wp2_with fail
      go_meet
      exact ⟨by rw [HE.out], rfl⟩
  case' rest => skip
  obtain ⟨rfl, rfl⟩ := hcut
  have hm := mostOf_in most
  generalize mostOf most = m at *
  obtain ⟨m0, m1⟩ := hm
  go_upto_region 2 with (fail)
  go_cut [8] from 13 to 20 (fun s wx => ∃ (t : Nat) (e : Ending), haveOf x m = (t : Int) ∧ e = .returned s ∧ Hid (NewRow w t m n e wx))
  case first =>
    obtain ⟨t, HT0, ht, htm⟩ := haveN x m m0 m1
    have HT := Lib.hid HT0
    have C := rowOfAny w t m n ht hn
    rw [← HT0] at C
    clear HT0 ht htm
    rcases haveOf_cases x m m0 with ⟨h, he⟩ | ⟨h, he⟩ | ⟨h, he⟩ | ⟨h, he⟩ | ⟨h, he⟩ | ⟨h, he⟩ | ⟨h, he⟩ | ⟨h, he⟩
    · obtain ⟨h1, h2⟩ := h
      subst h2
      rw [he] at C
      clear he
      have h3 : ¬ 0 < x := by omega
      have h4 : ¬ 0 ≤ x := by omega
      clear h1
      go_wp2_with fail
      refine C.mono ?_
      clear C
      rintro e w2 ⟨p, g, h, rfl, r⟩
      have HN := Lib.hid r
      clear r
      go_wp2
      go_meet
      exact ⟨t, _, HT.out, rfl, Lib.hid ⟨p, g, h, rfl, HN.out⟩⟩
    · obtain ⟨h1, h2⟩ := h
      rw [he] at C
      clear he
      have h3 : ¬ 0 < x := by omega
      have h4 : ¬ 0 ≤ x := by omega
      have h5 : ¬ m < 0 := by omega
      go_wp2_with fail
      refine C.mono ?_
      clear C
      rintro e w2 ⟨p, g, h, rfl, r⟩
      have HN := Lib.hid r
      clear r
      go_wp2
      go_meet
      exact ⟨t, _, HT.out, rfl, Lib.hid ⟨p, g, h, rfl, HN.out⟩⟩
    · obtain ⟨h1, h2⟩ := h
      subst h1 h2
      rw [he] at C
      clear he
      go_wp2_with fail
      refine C.mono ?_
      clear C
      rintro e w2 ⟨p, g, h, rfl, r⟩
      have HN := Lib.hid r
      clear r
      go_wp2
      go_meet
      exact ⟨t, _, HT.out, rfl, Lib.hid ⟨p, g, h, rfl, HN.out⟩⟩
    · obtain ⟨h1, h2⟩ := h
      subst h1
      rw [he] at C
      clear he
      have h5 : ¬ m < 0 := by omega
      go_wp2_with fail
      refine C.mono ?_
      clear C
      rintro e w2 ⟨p, g, h, rfl, r⟩
      have HN := Lib.hid r
      clear r
      go_wp2
      go_meet
      exact ⟨t, _, HT.out, rfl, Lib.hid ⟨p, g, h, rfl, HN.out⟩⟩
    · obtain ⟨h1, h2⟩ := h
      rw [he] at C
      clear he
      have h3 : ¬ x < 0 := by omega
      have h4 : ¬ m < x := by omega
      go_wp2_with fail
      refine C.mono ?_
      clear C
      rintro e w2 ⟨p, g, h, rfl, r⟩
      have HN := Lib.hid r
      clear r
      go_wp2
      go_meet
      exact ⟨t, _, HT.out, rfl, Lib.hid ⟨p, g, h, rfl, HN.out⟩⟩
    · obtain ⟨h1, h2⟩ := h
      subst h2
      rw [he] at C
      clear he
      have h3 : ¬ x < 0 := by omega
      go_wp2_with fail
      refine C.mono ?_
      clear C
      rintro e w2 ⟨p, g, h, rfl, r⟩
      have HN := Lib.hid r
      clear r
      go_wp2
      go_meet
      exact ⟨t, _, HT.out, rfl, Lib.hid ⟨p, g, h, rfl, HN.out⟩⟩
    · obtain ⟨h1, h2⟩ := h
      rw [he] at C
      clear he
      have h3 : ¬ x < 0 := by omega
      have h4 : ¬ x < m := by omega
      have h5 : 0 < x := by omega
      go_wp2_with fail
      refine C.mono ?_
      clear C
      rintro e w2 ⟨p, g, h, rfl, r⟩
      have HN := Lib.hid r
      clear r
      go_wp2
      go_meet
      exact ⟨t, _, HT.out, rfl, Lib.hid ⟨p, g, h, rfl, HN.out⟩⟩
    · obtain ⟨h1, h2⟩ := h
      subst h1
      rw [he] at C
      clear he
      have h3 : ¬ x < 0 := by omega
      have h4 : ¬ x < 0 := by omega
      go_wp2_with fail
      refine C.mono ?_
      clear C
      rintro e w2 ⟨p, g, h, rfl, r⟩
      have HN := Lib.hid r
      clear r
      go_wp2
      go_meet
      exact ⟨t, _, HT.out, rfl, Lib.hid ⟨p, g, h, rfl, HN.out⟩⟩
  case' rest => skip
  obtain ⟨t, e, HT, he, HN⟩ := hcut
  obtain ⟨p, g, h, he2, hs, hp, hg, hh, hb⟩ := HN.out
  obtain rfl := he.symm.trans he2 |> fun q => by injection q
  have HT0 := Lib.hid (show olds (haveOf x m) = List.replicate t (-1) by rw [HT]; simp [olds])
  have ht : t ≤ 1000 := by have := haveOf_in x m m0; omega
  have hpl : ∀ y, Own3 p g h y → y < wc.heap.size := by
    obtain ⟨⟨S, A, _, r1, r2⟩, r3, _⟩ := hs
    rintro y (rfl | rfl | rfl)
    · exact r1.lt
    · exact r2.lt
    · exact r3.lt
  have hlow : ∀ y, Own3 p g h y → w.heap.size ≤ y := by
    rintro y (rfl | rfl | rfl) <;> assumption
  have C := throughAny hs hpl ao cap os (HO.out.keep hb) (fun hp0 a ha hin => by
    obtain ⟨b, off, e, hbl, _⟩ := HO.out.2 hp0
    rw [e] at ha
    injection ha with ha
    subst ha
    have hbb : w.heap.size ≤ b := hlow _ hin
    omega) hn ht
  have HB := Lib.hid hb
  have HW := Lib.hid hlow
  have HP := Lib.hid hpl
  have HQ := Lib.hid (show w.heap.size ≤ h from hh)
  have hsz := hb.size
  clear HT HN he he2 hs hp hg hh hb hpl hlow m0 m1 HO
  go_wp2_with fail
  refine C.mono ?_
  clear C
  rintro e w5 ⟨c, rfl, hc, hs, hw, hcl⟩
  have HB5 := Lib.hid (HB.out.trans (hw.below hsz HW.out))
  have HC := Lib.hid hc
  have HS := Lib.hid hs
  have HCL := Lib.hid (show w.heap.size ≤ c ∧ h ≠ c from ⟨by omega, fun e => by have := HP.out h (.inr (.inr rfl)); omega⟩)
  obtain ⟨⟨S, A, _, r1, _⟩, _⟩ := hs
  have c6 := r1.c6
  have hl := r1.lt
  clear hc hw hcl r1 HB HW HP
  go_wp2
  go_ret2
  rw [← HT0.out] at HC HS
  exact ⟨h, c, rfl, HS.out.wit, HC.out, HQ.out, HCL.out.1, HCL.out.2, HB5.out⟩

end Go.Proofs.YtkbhemaijbkpbaaGreat.D10
namespace Go.Proofs.YtkbhemaijbkpbaaGreat.D10
open Go.RowKit

end Go.Proofs.YtkbhemaijbkpbaaGreat.D10
namespace Go.Proofs.YtkbhemaijbkpbaaGreat.D10
open Go.RowKit

/-- Whom the first k of many meet. -/
def metRow (ps : List Int) (n k : Nat) : List Bool := (List.range n).map fun j : Nat => decide ((j : Int) ∈ ps.take k)
section
variable {ps : List Int} {n k : Nat}
theorem metRow_length : (metRow ps n k).length = n := by simp [metRow]
theorem metRow_none : metRow ps n 0 = List.replicate n false := by simp [metRow, List.map_const']
theorem take_next (hk : k < ps.length) : ps.take (k + 1) = ps.take k ++ [ps.getD k 0] := by
  rw [List.take_succ_eq_append_getElem hk]; simp [List.getD, hk]
theorem metRow_old (hk : k < ps.length) (e : ps.getD k 0 = -1) : metRow ps n (k + 1) = metRow ps n k := by
  unfold metRow
  refine List.map_congr_left fun j _ => ?_
  rw [take_next hk, e]
  simp only [List.mem_append, List.mem_singleton, decide_eq_decide]
  exact ⟨fun h => h.elim id (fun h => by omega), .inl⟩
theorem metRow_put (hk : k < ps.length) {m : Nat} (e : ps.getD k 0 = m) : (metRow ps n k).set m true = metRow ps n (k + 1) := by
  refine List.ext_getElem (by simp [metRow_length]) fun i h1 h2 => ?_
  rw [List.getElem_set]
  simp only [metRow, List.getElem_map, List.getElem_range, take_next hk, e, List.mem_append, List.mem_singleton]
  split
  · rename_i h; subst h; simp
  · rename_i h
    simp only [decide_eq_decide]
    exact ⟨.inl, fun h => h.elim id (fun h => by omega)⟩
theorem metRow_at {j : Nat} (h : j < n) (hl : ps.length = n) : (metRow ps n n).getD j false = metB ps j := by
  simp [metRow, metB, List.getD, h, List.take_of_length_le (Nat.le_of_eq hl)]
end

set_option maxRecDepth 100000 in
set_option maxHeartbeats 3200000 in
theorem metOfAny (w : World) (gw n : Nat) (ps : List Int) (hr : Rw w gw .i64 3 ps) (hl : ps.length = n) (hp : ∀ k, k < n → -1 ≤ ps.getD k 0 ∧ ps.getD k 0 < n) (hn : n ≤ 1000000) :
    Calls Tryz.prog 198 #[.slice (some ⟨gw, 0, none⟩) n n] w fun e w' => ∃ gm, e = .returned (.slice (some ⟨gm, 0, none⟩) n n) ∧ BRw w' gm (metRow ps n n) ∧ w.heap.size ≤ gm ∧ Below w.heap.size w w' := by
  obtain ⟨i0, hi, hz0, hz1, hz2⟩ := info_parts infoBool
  have HR := Lib.hid hr
  have HL := Lib.hid hl
  have HP := Lib.hid hp
  clear hr hl hp
  go_enter Tryz.func198, Tryz.ntmps198
  go_wp2_with (at_make; refine wpList_make_full _ rfl _ _ 47 rfl w.heap.size 4 i0 _ 1 Tryz.underlying47 hi hz0 hz1 .i64 .i64 _ _ n rfl rfl rfl rfl (by rw [hz2]; omega) (by simp only [maxLen]; omega) (Nat.le_refl _) ?_; intro w2 hown2 hgrow2; have HM := Lib.hid (madeBools hown2 hgrow2); clear hown2 hgrow2)
  have HS := Lib.hid (show Below w.heap.size w w2 ∧ BRw w2 w.heap.size (metRow ps n 0) from ⟨HM.out.2, by rw [metRow_none]; exact HM.out.1⟩)
  clear HM hi hz0 hz1 hz2
  generalize hc : w.heap.size = c at *
  go_loopw [11] (fun i wr => ∃ k : Nat, k ≤ n ∧ i = .int .i64 k ∧ Hid (Below c w wr ∧ BRw wr c (metRow ps n k))) (fun i _ => n - (intOf i).toNat)
  case atStart => exact ⟨0, Nat.zero_le _, rfl, HS⟩
  case round =>
    obtain ⟨k, hk, rfl, HK⟩ := hrel
    clear HS
    by_cases hlt : k < n
    · have c1 := (HR.out.below (by rw [hc]; exact HK.out.1)).cell (i := k) (by rw [HL.out]; exact hlt)
      have hb := HP.out k hlt
      have i1 : (k : Int) < (n : Int) := by omega
      by_cases hz : ps.getD k 0 = -1
      · have HE := Lib.hid (metRow_old (n := n) (by rw [HL.out]; exact hlt) hz)
        rw [hz] at c1
        clear hb hz
        go_wp2
        go_roundw
        case rel => exact ⟨k + 1, by omega, by go_num, by rw [HE.out]; exact HK⟩
        case measure => simp [intOf]; omega
      · obtain ⟨m, hm⟩ : ∃ m : Nat, ps.getD k 0 = m := ⟨(ps.getD k 0).toNat, by omega⟩
        have HE := Lib.hid (metRow_put (n := n) (by rw [HL.out]; exact hlt) hm)
        rw [hm] at c1 hb hz
        have i2 : (m : Int) < (n : Int) := hb.2
        have c2 := HK.out.2.cell (i := m) (by rw [metRow_length]; omega)
        have f2 := HK.out.2.free m
        have i3 : ((m : Int) != -1) = true := by simp
        have HX := Lib.hid (HK.out.2.set m true)
        generalize (metRow ps n k).getD m false = z at *
        clear hb hz
        go_wp2
        go_roundw
        case rel => exact ⟨k + 1, by omega, by go_num, Lib.hid ⟨HK.out.1.setCell (p := ⟨c, m, none⟩) (Nat.le_refl c) (.bool true), by rw [← HE.out]; exact HX.out⟩⟩
        case measure => simp [intOf]; omega
    · obtain rfl : k = n := by omega
      clear hlt
      go_wp2
      go_ret
      exact ⟨c, rfl, HK.out.2, by omega, by rw [hc]; exact HK.out.1⟩

end Go.Proofs.YtkbhemaijbkpbaaGreat.D10
