/-
  through of package ends: operations that come one behind the other to a row. Conditions: a row as Slots says; operations that lie in memory, beside it, at most a million.
-/
import Derived.Test.YtafocplahmfghaaOBox10
namespace Go.Proofs.Ytafocplahmfghaa
open Go.RowKit

/-- On the way, k of n are through. -/
structure TI (w0 : World) (p g h c n t : Nat) (most : Int) (s0 : List Int) (ks : Nat → Int) (k : Nat) (W : World) : Prop where
  row : Slots W p most g h n t k (dqAt most s0 ks k) (dpK most s0 ks n k)
  cod : Rw W c .u8 5 (dcK most s0 ks n k)
  wr : Wrote (Own3 p g h) w0 W
  cf : w0.heap.size ≤ c
  off : ¬ Own3 p g h c
  pf : ∀ x, Own3 p g h x → x < w0.heap.size

section
variable {w0 W W' : World} {p g h c n t k : Nat} {most : Int} {s0 : List Int} {ks : Nat → Int}
theorem TI.fresh (r : TI w0 p g h c n t most s0 ks k W) (hb : Below W.heap.size W W') : TI w0 p g h c n t most s0 ks k W' := by
  obtain ⟨h1, h2, h3, h4, h5, h6⟩ := r
  exact ⟨h1.fresh hb, h2.below hb, h3.trans (Wrote.of hb _), h4, h5, h6⟩
/-- Behind an operation whose code is not told yet: the row is one further. -/
structure TM (w0 : World) (p g h c n t : Nat) (most : Int) (s0 : List Int) (ks : Nat → Int) (k : Nat) (W : World) : Prop where
  row : Slots W p most g h n t (k + 1) (dqAt most s0 ks (k + 1)) (dpK most s0 ks n (k + 1))
  cod : Rw W c .u8 5 (dcK most s0 ks n k)
  wr : Wrote (Own3 p g h) w0 W
  cf : w0.heap.size ≤ c
  off : ¬ Own3 p g h c
  pf : ∀ x, Own3 p g h x → x < w0.heap.size
theorem TM.fresh (r : TM w0 p g h c n t most s0 ks k W) (hb : Below W.heap.size W W') : TM w0 p g h c n t most s0 ks k W' := by
  obtain ⟨h1, h2, h3, h4, h5, h6⟩ := r
  exact ⟨h1.fresh hb, h2.below hb, h3.trans (Wrote.of hb _), h4, h5, h6⟩
/-- The code is told. -/
theorem TM.tell (r : TM w0 p g h c n t most s0 ks k W) (hk : k < n) {z : Int} (hz : z = dqC most (dqAt most s0 ks k) (ks k)) : TI w0 p g h c n t most s0 ks (k + 1) (W.setCell ⟨c, k, none⟩ (.int .u8 z)) := by
  obtain ⟨h1, h2, h3, h4, h5, h6⟩ := r
  have hw : Wrote (fun x => x = c) W (W.setCell ⟨c, k, none⟩ (.int .u8 z)) := (Wrote.refl (fun x => x = c) W).setCell (q := ⟨c, k, none⟩) (.inr rfl) _
  refine ⟨h1.off hw (fun e => h5 (.inl e.symm)) (fun e => h5 (.inr (.inl e.symm))) (fun e => h5 (.inr (.inr e.symm))), ?_, h3.setCell (q := ⟨c, k, none⟩) (.inl h4) _, h4, h5, h6⟩
  rw [hz, ← dcK_put hk]
  exact h2.set k _
/-- What put or take has left. -/
theorem TI.next (r : TI w0 p g h c n t most s0 ks k W) {s' ds' : List Int} (hs : Slots W' p most g h n t (k + 1) s' ds') (hw : Wrote (Own3 p g h) W W') (e1 : s' = dqAt most s0 ks (k + 1)) (e2 : ds' = dpK most s0 ks n (k + 1)) : TM w0 p g h c n t most s0 ks k W' := by
  obtain ⟨h1, h2, h3, h4, h5, h6⟩ := r
  subst e1 e2
  exact ⟨hs, h2.keep (hw.block _ h2.lt h5), h3.trans hw, h4, h5, h6⟩
/-- Nothing becomes of the row. -/
theorem TI.idle (r : TI w0 p g h c n t most s0 ks k W) (hk : k < n) (e1 : dqAt most s0 ks (k + 1) = dqAt most s0 ks k) (e2 : dqP (dqAt most s0 ks k) (ks k) = -1) : TM w0 p g h c n t most s0 ks k W := by
  obtain ⟨h1, h2, h3, h4, h5, h6⟩ := r
  exact ⟨by rw [e1, ← dpK_same hk e2]; exact h1.stay, h2, h3, h4, h5, h6⟩
end

section
variable {w0 W : World} {p g h c n t k : Nat} {most : Int} {s0 : List Int} {ks : Nat → Int}
/-- What a call for one operation leaves. -/
def StepPost (w0 : World) (p g h c n t : Nat) (most : Int) (s0 : List Int) (ks : Nat → Int) (k : Nat) (e : Ending) (w' : World) : Prop :=
  ∃ z, e = .returned (.int .u8 z) ∧ z = dqC most (dqAt most s0 ks k) (ks k) ∧ TM w0 p g h c n t most s0 ks k w'

theorem putStep (r : TI w0 p g h c n t most s0 ks k W) (hk : k < n) (hn : n ≤ 1000000) (ht : t ≤ 1000) (right : Bool) (hkd : ks k = if right then 2 else 1) :
    Calls Try.prog 33 #[.pointer (some ⟨p, 0, none⟩), .int .i64 (if right then 1 else 0), .int .i64 k] W (StepPost w0 p g h c n t most s0 ks k) := by
  by_cases hf : ((dqAt most s0 ks k).length : Int) < most
  · cases right
    · simp only [Bool.false_eq_true, if_false] at hkd ⊢
      refine (putLeft r.row (by omega) ht hk hf).mono ?_
      rintro e w' ⟨rfl, h1, h2⟩
      refine ⟨1, rfl, by simp [dqC, hkd, hf], r.next h1 h2 (by simp [dqAt, dqL, hkd, hf]) ?_⟩
      exact dpK_same hk (by simp [dqP, hkd])
    · simp only [if_true] at hkd ⊢
      refine (putRight r.row (by omega) ht hk hf).mono ?_
      rintro e w' ⟨rfl, h1, h2⟩
      refine ⟨1, rfl, by simp [dqC, hkd, hf], r.next h1 h2 (by simp [dqAt, dqL, hkd, hf]) ?_⟩
      exact dpK_same hk (by simp [dqP, hkd])
  · refine (putFull r.row (by omega) ht (by omega) hf _ _).mono ?_
    rintro e w' ⟨rfl, hb⟩
    refine ⟨3, rfl, by cases right <;> simp [dqC, hkd, hf], (r.fresh hb).idle hk (by cases right <;> simp [dqAt, dqL, hkd, hf]) (by cases right <;> simp [dqP, hkd])⟩

theorem takeStep (r : TI w0 p g h c n t most s0 ks k W) (hk : k < n) (hn : n ≤ 1000000) (ht : t ≤ 1000) (right : Bool) (hkd : ks k = if right then 4 else 3) :
    Calls Try.prog 34 #[.pointer (some ⟨p, 0, none⟩), .int .i64 (if right then 1 else 0), .int .i64 k] W (StepPost w0 p g h c n t most s0 ks k) := by
  have hr := r.row
  generalize hs : dqAt most s0 ks k = s at *
  by_cases h0 : s = []
  · subst h0
    refine (takeNone hr (by omega) ht (by omega) _ _).mono ?_
    rintro e w' ⟨rfl, hb⟩
    refine ⟨4, rfl, by cases right <;> simp [dqC, hkd, hs], (r.fresh hb).idle hk (by cases right <;> simp [dqAt, dqL, hkd, hs]) (by cases right <;> simp [dqP, hkd, hs])⟩
  · cases right
    · simp only [Bool.false_eq_true, if_false] at hkd ⊢
      cases s with
      | nil => exact absurd rfl h0
      | cons z l =>
        refine (takeLeft hr (by omega) ht hk).mono ?_
        rintro e w' ⟨rfl, h1, h2⟩
        refine ⟨2, rfl, by simp [dqC, hkd, hs], r.next h1 h2 (by simp [dqAt, dqL, hkd, hs]) ?_⟩
        rw [← dpK_put hk]
        simp [dqP, hkd, hs]
    · simp only [if_true] at hkd ⊢
      rcases List.eq_nil_or_concat s with e | ⟨l, z, e⟩
      · exact absurd e h0
      · rw [List.concat_eq_append] at e
        subst e
        refine (takeRight hr (by omega) ht hk).mono ?_
        rintro e w' ⟨rfl, h1, h2⟩
        refine ⟨2, rfl, by simp [dqC, hkd, hs], r.next h1 h2 (by simp [dqAt, dqL, hkd, hs]) ?_⟩
        rw [← dpK_put hk]
        simp [dqP, hkd, hs]
end

/-- What through leaves. -/
def ThruPost (w : World) (p g h n t : Nat) (most : Int) (s0 : List Int) (ks : Nat → Int) (e : Ending) (w' : World) : Prop :=
  ∃ c, e = .returned (.slice (some ⟨c, 0, none⟩) n n) ∧ Rw w' c .u8 5 (dcL most s0 ks n) ∧ Slots w' p most g h n t n (dqAt most s0 ks n) (dpL most s0 ks n) ∧ Wrote (Own3 p g h) w w' ∧ w.heap.size ≤ c

set_option maxRecDepth 100000 in
set_option maxHeartbeats 8000000 in
theorem throughAny {w : World} {p g h n t : Nat} {most : Int} (r : Slots w p most g h n t 0 (List.replicate t (-1)) (List.replicate n (-1))) (pf : ∀ x, Own3 p g h x → x < w.heap.size) (ao : Option Addr) (cap : Nat) (os : List (Int × Int)) (ho : OpsAt w ao n os) (hoff : 0 < n → Off (Own3 p g h) ao) (hn : n ≤ 1000000) (ht : t ≤ 1000) :
    Calls Try.prog 32 #[.slice ao n cap, .func (Fn.func 33) #[.pointer (some ⟨p, 0, none⟩)] #[], .func (Fn.func 34) #[.pointer (some ⟨p, 0, none⟩)] #[]] w (ThruPost w p g h n t most (List.replicate t (-1)) (kindsOf os)) := by
  obtain ⟨j0, hj, hy0, hy1, hy2⟩ := info_parts infoU8
  have HO := Lib.hid ho
  have HR := Lib.hid r
  have HF := Lib.hid hoff
  have HP := Lib.hid pf
  clear ho r hoff pf
  go_enter Try.func32, Try.ntmps32
  go_wp2_with (at_make; refine wpList_make_full _ rfl _ _ 23 rfl w.heap.size 5 j0 _ 1 Try.underlying23 hj hy0 hy1 .i64 .i64 _ _ n rfl rfl rfl rfl (by rw [hy2]; omega) (by simp only [maxLen]; omega) (Nat.le_refl _) ?_; intro w2 hown2 hgrow2; have HM := Lib.hid (madeRow (k := .u8) hown2 hgrow2); clear hown2 hgrow2)
  have HI := Lib.hid (show TI w p g h w.heap.size n t most (List.replicate t (-1)) (kindsOf os) 0 w2 from ⟨by rw [dpK_none]; exact HR.out.fresh HM.out.2, by rw [dcK_none]; exact HM.out.1, Wrote.of HM.out.2 _, Nat.le_refl _, fun e => by have := HP.out _ e; omega, HP.out⟩)
  clear HM HR
  generalize hc : w.heap.size = c at *
  go_loopw [15] (fun i wr => ∃ k : Nat, k ≤ n ∧ i = .int .i64 k ∧ Hid (TI w p g h c n t most (List.replicate t (-1)) (kindsOf os) k wr)) (fun i _ => n - (intOf i).toNat)
  case atStart => exact ⟨0, Nat.zero_le _, rfl, HI⟩
  case round =>
    obtain ⟨k, hk, rfl, hp⟩ := hrel
    clear HI
    by_cases hlt : k < n
    · obtain ⟨b, off, rfl, hb, hcs⟩ := HO.out.2 (by omega)
      have hx := hcs k hlt
      have hob := hp.out.wr.block b hb (fun e => HF.out (by omega) _ rfl e)
      have x0 := (World.cell?_of_block (a := ⟨b, off + k * 2, none⟩) hob).trans hx.1
      have x1 := (World.cell?_of_block (a := ⟨b, off + k * 2 + 1, none⟩) hob).trans hx.2
      have HK := Lib.hid (show kindsOf os k = (os.getD k (0, 0)).1 from rfl)
      have i1 : (k : Int) < (n : Int) := by omega
      clear hx hob hcs
      generalize (os.getD k (0, 0)).1 = kd at *
      generalize (os.getD k (0, 0)).2 = v at *
      have HA := Lib.hid (hp.out.fresh (W' := wr.alloc (.cells #[.int .u8 kd, .int .i32 v] 42)) ((Below.refl _ _).alloc (Nat.le_refl _) _))
      have c1 := HA.out.cod.cell (i := k) (by rw [dcK_length hk]; exact hlt)
      have f1 := HA.out.cod.free k
      clear hp
      rcases (show kd = 1 ∨ kd = 2 ∨ kd = 3 ∨ kd = 4 ∨ (¬ kd = 1 ∧ ¬ kd = 2 ∧ ¬ kd = 3 ∧ ¬ kd = 4) by omega) with k1 | k2 | k3 | k4 | k5
      · subst k1
        have C := putStep (right := false) HA.out hlt hn ht HK.out
        simp only [Bool.false_eq_true, if_false, if_true] at C
        go_wp2_with fail
        refine C.mono ?_
        clear C
        rintro e w6 ⟨z6, rfl, hz, hm⟩
        have c6 := hm.cod.cell (i := k) (by rw [dcK_length hk]; exact hlt)
        have f6 := hm.cod.free k
        have HT := Lib.hid (hm.tell hlt hz)
        clear hm hz c1 f1
        generalize (dcK most (List.replicate t (-1)) (kindsOf os) n k).getD k 0 = z at *
        go_wp2
        go_roundw
        case rel => exact ⟨k + 1, by omega, by go_num, HT⟩
        case measure => simp [intOf]; omega
      · subst k2
        have C := putStep (right := true) HA.out hlt hn ht HK.out
        simp only [Bool.false_eq_true, if_false, if_true] at C
        go_wp2_with fail
        refine C.mono ?_
        clear C
        rintro e w6 ⟨z6, rfl, hz, hm⟩
        have c6 := hm.cod.cell (i := k) (by rw [dcK_length hk]; exact hlt)
        have f6 := hm.cod.free k
        have HT := Lib.hid (hm.tell hlt hz)
        clear hm hz c1 f1
        generalize (dcK most (List.replicate t (-1)) (kindsOf os) n k).getD k 0 = z at *
        go_wp2
        go_roundw
        case rel => exact ⟨k + 1, by omega, by go_num, HT⟩
        case measure => simp [intOf]; omega
      · subst k3
        have C := takeStep (right := false) HA.out hlt hn ht HK.out
        simp only [Bool.false_eq_true, if_false, if_true] at C
        go_wp2_with fail
        refine C.mono ?_
        clear C
        rintro e w6 ⟨z6, rfl, hz, hm⟩
        have c6 := hm.cod.cell (i := k) (by rw [dcK_length hk]; exact hlt)
        have f6 := hm.cod.free k
        have HT := Lib.hid (hm.tell hlt hz)
        clear hm hz c1 f1
        generalize (dcK most (List.replicate t (-1)) (kindsOf os) n k).getD k 0 = z at *
        go_wp2
        go_roundw
        case rel => exact ⟨k + 1, by omega, by go_num, HT⟩
        case measure => simp [intOf]; omega
      · subst k4
        have C := takeStep (right := true) HA.out hlt hn ht HK.out
        simp only [Bool.false_eq_true, if_false, if_true] at C
        go_wp2_with fail
        refine C.mono ?_
        clear C
        rintro e w6 ⟨z6, rfl, hz, hm⟩
        have c6 := hm.cod.cell (i := k) (by rw [dcK_length hk]; exact hlt)
        have f6 := hm.cod.free k
        have HT := Lib.hid (hm.tell hlt hz)
        clear hm hz c1 f1
        generalize (dcK most (List.replicate t (-1)) (kindsOf os) n k).getD k 0 = z at *
        go_wp2
        go_roundw
        case rel => exact ⟨k + 1, by omega, by go_num, HT⟩
        case measure => simp [intOf]; omega
      · obtain ⟨k1, k2, k3, k4⟩ := k5
        have hk1 := HK.out
        have hm := HA.out.idle hlt (by simp [dqAt, dqL, hk1, k1, k2, k3, k4]) (by simp [dqP, hk1, k3, k4])
        have HT := Lib.hid (hm.tell hlt (z := 5) (by simp [dqC, hk1, k1, k2, k3, k4]))
        clear hm hk1
        generalize (dcK most (List.replicate t (-1)) (kindsOf os) n k).getD k 0 = z at *
        go_wp2
        go_roundw
        case rel => exact ⟨k + 1, by omega, by go_num, HT⟩
        case measure => simp [intOf]; omega
    · obtain rfl : k = n := by omega
      clear hlt
      go_wp2
      go_ret
      have h6 := hp.out
      have h2 := h6.cod
      have h1 := h6.row
      rw [dcK_all] at h2
      rw [dpK_all] at h1
      exact ⟨c, rfl, h2, h1, h6.wr, by omega⟩

end Go.Proofs.Ytafocplahmfghaa
