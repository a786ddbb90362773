/-
  What Apply of package match tells, and leaves, at every stack and at nil: as one by one. Conditions: a stack as StkO says; operations that lie in memory, beside it, at most a million.
-/
import Derived.Test.YtephmkekgmpnpaaApply9
namespace Go.Proofs.Ytephmkekgmpnpaa
open Go.RowKit

section
variable {B n cap : Nat} {ao : Option Addr} {os : List (Int × Int)} {sp : Option Nat} {most : Int} {Bs Bo Bt gt : Nat} {zs : List Int}

theorem line_same {ks : Nat → Int} {t : Int} {k : Nat} (hno : ks k = 2 → (lineAt most t ks k).2 = [] ∧ ¬ 0 < (lineAt most t ks k).1) : (lineAt most t ks (k + 1)).1 = (lineAt most t ks k).1 := by
  simp only [lineAt, lineStep]
  split
  · split <;> rfl
  · split
    · rename_i h2
      obtain ⟨h3, h4⟩ := hno h2
      simp [h3, h4]
    · rfl

theorem applyHooks (hz : (zs.length : Int) ≤ most) (hm : most ≤ 1000) :
    Hooks B n most zs.length (kindsOf os) 35 36 37 39 #[.pointer (some ⟨Bt, 0, none⟩)] #[.pointer (some ⟨Bo, 0, none⟩), .pointer (some ⟨Bt, 0, none⟩)] #[.pointer (some ⟨Bs, 0, none⟩), .pointer (some ⟨Bt, 0, none⟩)] #[.pointer (some ⟨Bs, 0, none⟩), .pointer (some ⟨Bo, 0, none⟩)] (fun k => ⟨gt, k * 2, none⟩)
      (fun k G W => k ≤ n ∧ AI B n cap ao os sp most Bs Bo Bt gt (resK most zs os n k) (zs.take (lineAt most zs.length (kindsOf os) k).1.toNat) G W)
      (fun k G W => k ≤ n ∧ AI B n cap ao os sp most Bs Bo Bt gt (resV most zs os n k) (zs.take (lineAt most zs.length (kindsOf os) (k + 1)).1.toNat) G W)
      (fun j G W => AI B n cap ao os sp most Bs Bo Bt gt (resK most zs os n n) (zs.take (lineAt most zs.length (kindsOf os) n).1.toNat ++ ((lineAt most zs.length (kindsOf os) n).2.take j).map (valOf os)) G W) := by
  refine ⟨enters_of Try.func35 (by kernel_rfl) rfl, enters_of Try.func36 (by kernel_rfl) rfl, enters_of Try.func37 (by kernel_rfl) rfl, enters_of Try.func39 (by kernel_rfl) rfl, by omega, hz, hm,
    fun k G W h => h.2.foot, fun k G W h => h.2.foot, fun k G W h => h.foot, fun k G L W W' h hw ha hB => ⟨h.1, h.2.keep hw ha hB⟩, fun k G L W W' h hw ha hB => ⟨h.1, h.2.keep hw ha hB⟩, fun k G L W W' h hw ha hB => h.keep hw ha hB, ?_, ?_, ?_, ?_, ?_, ?_, ?_, ?_⟩
  · intro k G W h hk
    exact acode h.2 hk
  · intro k G W j ys h hk hkd hs
    have ho := lineAt_ok (show (0 : Int) ≤ zs.length by omega) hz (kindsOf os) k
    have hj := ho.places j (by rw [hs]; simp)
    obtain ⟨i, rfl⟩ : ∃ i : Nat, j = i := ⟨j.toNat, by omega⟩
    refine (ameet h.2 hk (show i < n by omega)).mono ?_
    rintro e w' ⟨he, q, rfl⟩
    have a := h.2.fresh (below_drewN (Below.refl _ _) q)
    have hv := line_meet hz hkd hs
    have hw := (Wrote.refl G (W.drewN q)).setCell (q := ⟨gt, k * 2 + 1, none⟩) (.inr (a.own _ (.inr (.inr (.inr rfl))))) (.int .i32 (valOf os i))
    refine ⟨he, G, ⟨h.1, ?_⟩, (Wrote.of (below_drewN (Below.refl W.heap.size W) q) G).trans hw, Later.refl _ _⟩
    have e1 : (lineAt most zs.length (kindsOf os) (k + 1)).1 = (lineAt most zs.length (kindsOf os) k).1 := by
      simp only [lineAt, lineStep, hkd, if_neg (show ¬ (2 : Int) = 1 by omega), if_true, hs]
      rw [if_neg (by simp)]
    rw [e1, ← resV_set hk, hv]
    exact a.put rfl (a.rrow.setV k (valOf os i)) (by simp [a.len])
  · intro k G W h hk hkd hs ht
    obtain ⟨m, hm⟩ : ∃ m : Nat, (lineAt most zs.length (kindsOf os) k).1 = ((m + 1 : Nat) : Int) := ⟨(lineAt most zs.length (kindsOf os) k).1.toNat - 1, by omega⟩
    obtain ⟨hv, hml⟩ := line_take hz hkd hs hm
    have a := h.2
    rw [hm, show ((m + 1 : Nat) : Int).toNat = m + 1 by omega, take_pred hml] at a
    have e1 : (lineAt most zs.length (kindsOf os) (k + 1)).1 = (m : Int) := by
      simp only [lineAt, lineStep, hkd, if_neg (show ¬ (2 : Int) = 1 by omega), if_true, if_pos hs, if_pos ht]
      rw [hm]
      omega
    refine (atake a hk).mono ?_
    rintro e w' ⟨he, G', p, wr, lt⟩
    refine ⟨he, G', ⟨h.1, ?_⟩, wr, lt⟩
    rw [e1, Int.toNat_natCast, ← resV_set hk, hv]
    exact p
  · intro k G W h hk hno
    refine ⟨h.1, ?_⟩
    rw [line_same hno, resV_idle hk (line_idle hz hno)]
    exact h.2
  · intro k G W h hk
    exact ⟨⟨_, (h.2.rrow.cells (i := k) (by rw [h.2.len]; exact hk)).1⟩, h.2.rrow.free _, h.2.own _ (.inr (.inr (.inr rfl)))⟩
  · intro k G W h hk
    refine ⟨hk, ?_⟩
    rw [line_code hz k, ← resV_put hk]
    exact h.2.put rfl (h.2.rrow.set1 k (codeAt most zs os k)) (by simp [h.2.len])
  · intro G W h
    simpa using h.2
  · intro j G W x h hx
    have ho := lineAt_ok (show (0 : Int) ≤ zs.length by omega) hz (kindsOf os) n
    obtain ⟨hjl, hxj⟩ := List.getElem?_eq_some_iff.1 hx
    have hb := ho.places x (by rw [← hxj]; exact List.getElem_mem hjl)
    obtain ⟨i, rfl⟩ : ∃ i : Nat, x = i := ⟨x.toNat, by omega⟩
    refine (astay h (show i < n by omega) (by
      have := ho.room
      have := ho.low
      have := ho.high
      simp only [List.length_append, List.length_take, List.length_map]
      omega)).mono ?_
    rintro e w' ⟨he, G', p, wr, lt⟩
    refine ⟨he, G', ?_, wr, lt⟩
    rw [List.take_succ_eq_append_getElem hjl, hxj, List.map_append, ← List.append_assoc]
    exact p
end

/-- What Apply leaves. -/
def ApplyPost (w : World) (F : Nat → Prop) (sp : Option Nat) (most : Int) (zs : List Int) (os : List (Int × Int)) (n : Nat) (e : Ending) (w' : World) : Prop :=
  ∃ gt F', e = .returned (.slice (some ⟨gt, 0, none⟩) n n) ∧ RRow w' gt (resL most zs os n) ∧ StkO w' F' sp most (itemsAt most zs os n) ∧ Wrote F w w' ∧ Later F F' w ∧ w.heap.size ≤ gt ∧ ¬ F' gt

theorem lbxNew {V0 : World} (x : Option Addr) (w : World) (ao : Option Addr) (n cap : Nat) (hV0 : (w.alloc (.cells #[.pointer x] 30)).alloc (.cells #[.slice ao n cap] 22) = V0) : LBx V0 (w.heap.size + 1) ao n cap := by
  rw [← hV0]
  have := heap_alloc_new (w.alloc (.cells #[.pointer x] 30)) (.cells #[.slice ao n cap] 22)
  simpa [LBx] using this
theorem applyDone {w V w' : World} {F G' : Nat → Prop} {sp : Option Nat} {most : Int} {zs : List Int} {os : List (Int × Int)} {n cap B Bs Bo Bt gt : Nat} {ao : Option Addr} (hz : (zs.length : Int) ≤ most) (hb : Below w.heap.size w V) (hg : w.heap.size ≤ gt)
    (a : AI B n cap ao os sp most Bs Bo Bt gt (resK most zs os n n) (zs.take (lineAt most zs.length (kindsOf os) n).1.toNat ++ ((lineAt most zs.length (kindsOf os) n).2.take (lineAt most zs.length (kindsOf os) n).2.length).map (valOf os)) G' w')
    (hw : Wrote (fun g => F g ∨ (w.heap.size ≤ g ∧ g < V.heap.size)) V w') (hl : Later (fun g => F g ∨ (w.heap.size ≤ g ∧ g < V.heap.size)) G' V) : ApplyPost w F sp most zs os n (.returned (.slice (some ⟨gt, 0, none⟩) n n)) w' := by
  obtain ⟨F', f1, f2, f3⟩ := a.stk
  have hr := a.rrow
  rw [resK_all] at hr
  rw [List.take_length] at f3
  have hI := line_items (os := os) hz n
  unfold lineItems at hI
  rw [← hI] at f3
  have hs := hb.size
  refine ⟨gt, F', rfl, hr, f3, ⟨hw.os.trans hb.os, hw.tape.trans hb.tape, hw.output.trans hb.output, Nat.le_trans hs hw.size, fun k hk hn => ?_⟩, fun g hg' => ?_, hg, fun h => (f2 gt h).2.2.2 rfl⟩
  · refine (hw.block k (by omega) ?_).trans (hb.block k hk)
    rintro (h1 | h1)
    · exact hn h1
    · omega
  · rcases hl g (f1 g hg') with (h1 | h1) | h1
    · exact .inl h1
    · exact .inr h1.1
    · exact .inr (by omega)

theorem applyStart {w w2 V0 V : World} {F : Nat → Prop} {sp : Option Nat} {most : Int} {zs : List Int} {ao : Option Addr} {n cap : Nat} {os : List (Int × Int)} (h : StkO w F sp most zs) (hF : ∀ g, F g → g < w.heap.size) (ho : OpsAt w ao n os) (hoff : 0 < n → Off F ao)
    (hV0 : (w.alloc (.cells #[.pointer (ptrO sp)] 30)).alloc (.cells #[.slice ao n cap] 22) = V0) (hr : RRow w2 V0.heap.size (List.replicate n (0, 0))) (hb2 : Below V0.heap.size V0 w2) (hV : w2.alloc (.cells #[.slice (some ⟨V0.heap.size, 0, none⟩) n n] 37) = V) :
    AI V.heap.size n cap ao os sp most w.heap.size (w.heap.size + 1) w2.heap.size V0.heap.size (resK most zs os n 0) zs (fun g => F g ∨ (w.heap.size ≤ g ∧ g < V.heap.size)) V ∧ Below w.heap.size w V := by
  have hz0 : V0.heap.size = w.heap.size + 2 := by rw [← hV0]; simp
  have hzV : V.heap.size = w2.heap.size + 1 := by rw [← hV]; simp
  have hl2 := hr.lt
  have hb0 : Below w.heap.size w V0 := by rw [← hV0]; exact ((Below.refl _ _).alloc (Nat.le_refl _) _).alloc (by simp) _
  have hbV : Below w2.heap.size w2 V := by rw [← hV]; exact (Below.refl _ _).alloc (Nat.le_refl _) _
  have h0V : Below V0.heap.size V0 V := hb2.trans (hbV.mono (by omega))
  have hwV : Below w.heap.size w V := hb0.trans (h0V.mono (by omega))
  have q0 : QBx V0 w.heap.size sp := by
    rw [← hV0]
    exact (Below.heap_alloc _ _ _ (by simp)).trans (heap_alloc_new w _)
  have l0 : LBx V0 (w.heap.size + 1) ao n cap := by
    rw [← hV0]
    have := heap_alloc_new (w.alloc (.cells #[.pointer (ptrO sp)] 30)) (.cells #[.slice ao n cap] 22)
    simpa [LBx] using this
  refine ⟨⟨?_, fun g hg => ?_, q0.keep (h0V.block _ q0.lt), l0.keep (h0V.block _ l0.lt), by rw [← hV]; exact SBx.new _ _ _ _, ?_, by rw [resK_length (Nat.zero_le _)], ho.keep hwV, fun hp a ha => ?_, F, fun g hg => .inl hg, fun g hg => ?_, h.fresh hwV⟩, hwV⟩
  · rintro g (rfl | rfl | rfl | rfl) <;> (refine .inr ⟨?_, ?_⟩ <;> omega)
  · rcases hg with hg | hg
    · have := hF g hg; omega
    · exact hg.2
  · rw [resK_none]
    exact hr.keep (hbV.block _ hl2)
  · obtain ⟨b, off, e, hl, _⟩ := ho.2 hp
    have hn := hoff hp a ha
    rw [e] at ha
    injection ha with ha
    subst ha
    refine ⟨?_, show b < V.heap.size by omega⟩
    rintro (h1 | h1)
    · exact hn h1
    · exact absurd h1.1 (show ¬ w.heap.size ≤ b by omega)
  · have := hF g hg
    refine ⟨?_, ?_, ?_, ?_⟩ <;> omega

set_option maxRecDepth 100000 in
set_option maxHeartbeats 8000000 in
theorem applyAny {w : World} {F : Nat → Prop} {sp : Option Nat} {most : Int} {zs : List Int} (h : StkO w F sp most zs) (hF : ∀ g, F g → g < w.heap.size) (ao : Option Addr) (n cap : Nat) (os : List (Int × Int)) (ho : OpsAt w ao n os) (hoff : 0 < n → Off F ao) (hn : n ≤ 1000000) :
    Calls Try.prog 17 #[.pointer (ptrO sp), .slice ao n cap] w (ApplyPost w F sp most zs os n) := by
  obtain ⟨j0, hj, hy0, hy1, hy2⟩ := info_parts infoRes
  obtain ⟨hz, h0, hm⟩ := h.room
  obtain ⟨V0, hV0⟩ : ∃ V0, (w.alloc (.cells #[.pointer (ptrO sp)] 30)).alloc (.cells #[.slice ao n cap] 22) = V0 := ⟨_, rfl⟩
  have HS := Lib.hid (fun w2 V hr hb2 hV => applyStart h hF ho hoff hV0 (w2 := w2) (V := V) hr hb2 hV)
  have HV0 := Lib.hid hV0
  have c0 := (lbxNew (ptrO sp) w ao n cap hV0).cell
  clear h hF ho hoff hV0
  go_enter Try.func17, Try.ntmps17
  go_upto_region 1 with (fail)
  rw [HV0.out]
  go_upto_region 2 with (at_make; refine wpList_make_full _ rfl _ _ 37 rfl V0.heap.size 41 j0 _ 2 Try.underlying37 hj hy0 hy1 .i64 .i64 _ _ n rfl rfl rfl rfl (by rw [hy2]; omega) (by simp only [maxLen]; omega) (Nat.le_refl _) ?_; intro w2 hown2 hgrow2; have HM := Lib.hid (madeRes hown2 hgrow2); clear hown2 hgrow2)
  generalize hV : w2.alloc (.cells #[.slice (some ⟨V0.heap.size, 0, none⟩) n n] 37) = V
  obtain ⟨a, hbV⟩ := HS.out w2 V HM.out.1 HM.out.2 hV
  have hg : w.heap.size ≤ V0.heap.size := by rw [← HV0.out]; simp; omega
  have HG := Lib.hid hg
  have HB := Lib.hid hbV
  clear hV HS HM c0 HV0 hg hbV
  generalize w2.heap.size = Bt at *
  generalize V0.heap.size = gt at *
  have c1 := a.sb.cell
  have c2 := a.ob.cell
  have c3 := a.tb.cell
  have a' := a.fresh (Below.refl _ _).drew
  obtain ⟨F1, _, _, f3⟩ := a'.stk
  have L := (lenO f3).mono (fun _ _ h => (⟨h.1, h.2.symm⟩ : _ ∧ _ = V.drew))
  have M := (mostO f3).mono (fun _ _ h => (⟨h.1, h.2.symm⟩ : _ ∧ _ = V.drew))
  have C0 := throughAny (applyHooks (B := V.heap.size) (Bs := w.heap.size) (Bo := w.heap.size + 1) (Bt := Bt) (gt := gt) (n := n) (cap := cap) (ao := ao) (os := os) (sp := sp) hz hm) ao cap os a'.ops (fun hp x hx => (a'.off hp x hx).1) (fun _ _ => rfl) hn (Nat.le_refl _) ⟨Nat.zero_le _, by simpa [lineAt] using a'⟩
  unfold tellsV at C0
  have C := C0.mono (fun e w6 ⟨he, G', p, wr, lt⟩ => (⟨he, p.tb.cell, applyDone hz HB.out.drew HG.out p wr lt⟩ : e = Ending.returned (Value.tuple #[]) ∧ w6.cell? ⟨Bt, 0, none⟩ = some (Value.slice (some ⟨gt, 0, none⟩) n n) ∧ ApplyPost w F sp most zs os n (Ending.returned (Value.slice (some ⟨gt, 0, none⟩) n n)) w6))
  clear a a' f3 C0
  refine wp_region_still_tail 10 (by kernel_rfl) (by kernel_rfl) ?_
  simp only [List.take_succ_cons, List.take_zero, List.drop_succ_cons, List.drop_zero]
  still_step
  still_call L
  still_step
  still_call M
  repeat still_step
  refine wpStill_nil ?_
  clear c1 c2 c3 L M
  change wpList _ _ _ _ _ V.drew
  generalize V.drew = V2 at *
  go_wp2_with fail
  refine C.mono ?_
  clear C
  rintro e w6 ⟨rfl, h3, p6⟩
  have H6 := Lib.hid p6
  clear p6
  go_wp2
  go_ret
  exact H6.out

end Go.Proofs.Ytephmkekgmpnpaa
