/-
  What do of package sorted does: one operation at a list, or none, with a coin. Conditions: a list as SkO says, a coin as Coin says, beside one another.
-/
import Derived.Test.YtikaoikladbdpaaGreatG1616
namespace Go.Proofs.YtikaoikladbdpaaGreat
open Go.RowKit

def DidP (F G : Nat → Prop) (sp : Option Nat) (q : Nat) (m : Int) (s : List It × List Bool) (w w' : World) : Prop :=
  ∃ F' G', SkO w' F' sp m s.1 ∧ Coin w' G' q s.2 ∧ Apart F' G' ∧ Wrote (fun g => F g ∨ G g) w w' ∧ Later F F' w ∧ Later G G' w

section
variable {w w1 w2 w' : World} {F G F' G' : Nat → Prop} {sp : Option Nat} {p q : Nat} {m : Int} {l l' : List It} {bs bs' : List Bool} {s : List It × List Bool}
theorem Wrote.into (h : Wrote F w w') (hs : ∀ g, F g → G g) : Wrote G w w' := ⟨h.os, h.tape, h.output, h.size, fun k hk hn => h.block k hk (fun e => hn (hs k e))⟩
theorem DidP.still (h : SkO w F sp m s.1) (c : Coin w G q s.2) (ap : Apart F G) (hb : Below w.heap.size w w') : DidP F G sp q m s w w' :=
  ⟨F, G, h.fresh hb, c.fresh hb, ap, Wrote.of hb _, Later.refl _ _, Later.refl _ _⟩
theorem DidP.left (c : Coin w G q bs) (ap : Apart F G) (d : DidSO F sp m l w w') : DidP F G sp q m (l, bs) w w' := by
  obtain ⟨F', h1, h2, h3⟩ := d
  exact ⟨F', G, h1, c.apart h2 ap.symm, h3.apart ap c.foot, h2.into (fun _ h => .inl h), h3, Later.refl _ _⟩
theorem DidP.right (h : SkO w F sp m l) (ap : Apart F G) (d : DidC G q bs w w') : DidP F G sp q m (l, bs) w w' := by
  obtain ⟨G', h1, h2, h3⟩ := d
  exact ⟨F, G', h.apart h2 ap, h1, (h3.apart ap.symm h.1).symm, h2.into (fun _ h => .inr h), Later.refl _ _, h3⟩
theorem DidP.trans (hw : Wrote (fun g => F g ∨ G g) w w1) (hF : Later F F' w) (hG : Later G G' w) (d : DidP F' G' sp q m s w1 w2) : DidP F G sp q m s w w2 := by
  obtain ⟨F2, G2, h1, h2, h3, h4, h5, h6⟩ := d
  refine ⟨F2, G2, h1, h2, h3, hw.step (F' := fun g => F' g ∨ G' g) (fun g hg => ?_) h4, hF.trans h5 hw.size, hG.trans h6 hw.size⟩
  rcases hg with hg | hg
  · exact (hF g hg).imp .inl id
  · exact (hG g hg).imp .inr id
theorem DidP.less (hb : Below w.heap.size w w1) (d : DidP F G sp q m s w1 w2) : DidP F G sp q m s w w2 := DidP.trans (Wrote.of hb _) (Later.refl _ _) (Later.refl _ _) d
theorem DidP.more (d : DidP F G sp q m s w w1) (hb : Below w1.heap.size w1 w2) : DidP F G sp q m s w w2 := by
  obtain ⟨F2, G2, h1, h2, h3, h4, h5, h6⟩ := d
  exact ⟨F2, G2, h1.fresh hb, h2.fresh hb, h3, h4.trans (Wrote.of hb _), h5, h6⟩
theorem DidP.box {W : World} (d : DidP F G sp q m s W w1) (hb : Below w.heap.size w W) {g : Nat} (hg : w.heap.size ≤ g) (hg2 : g < W.heap.size) (hF : ∀ k, F k → k < w.heap.size) (hG : ∀ k, G k → k < w.heap.size) (u v : Value) : DidP F G sp q m s w ((w1.setCell ⟨g, 0, none⟩ u).setCell ⟨g, 1, none⟩ v) := by
  obtain ⟨F2, G2, h1, h2, h3, h4, h5, h6⟩ := d
  have k1 : ¬ F2 g := fun e => by
    rcases h5 g e with h | h
    · have := hF g h; omega
    · omega
  have k2 : ¬ G2 g := fun e => by
    rcases h6 g e with h | h
    · have := hG g h; omega
    · omega
  exact ⟨F2, G2, h1.set2 k1 u v, h2.apart (wrote2 w1 g 0 1 u v) (fun k a b => k2 (b ▸ a)), h3, (((Wrote.of hb _).trans h4).setCell (q := ⟨g, 0, none⟩) (.inl hg) u).setCell (q := ⟨g, 1, none⟩) (.inl hg) v, fun k hk => (h5 k hk).imp id (fun h => Nat.le_trans hb.size h), fun k hk => (h6 k hk).imp id (fun h => Nat.le_trans hb.size h)⟩

theorem RBox.drew {W : World} {g : Nat} {c x : Int} (h : RBox W g c x) : RBox W.drew g c x := h
theorem OBox.drew {W : World} {g : Nat} {c x : Int} (h : OBox W g c x) : OBox W.drew g c x := h
theorem OBox.off {a b : World} {g : Nat} {c x : Int} (h : OBox a g c x) (hn : ¬ F g) (hw : Wrote F a b) : OBox b g c x := (hw.block g h.lt hn).trans h

set_option maxRecDepth 100000 in
set_option maxHeartbeats 3200000 in
theorem doOther (h : SkO w F sp m l) (c : Coin w G q bs) (ap : Apart F G) (kd kv : Int) (hk : ¬ kd = 1) :
    Calls Tryz.prog 223 #[.pointer (ptrS sp), .pointer (some ⟨q, 0, none⟩), .agg #[.int .u8 kd, .int .i32 kv]] w fun e w' => e = .returned (.agg #[.int .u8 (hpC m (vals l) kd), .int .i32 (hpV (vals l) kd)]) ∧ DidP F G sp q m ((if kd = 2 then l.tail else l), bs) w w' := by
  have HH := Lib.hid h
  have HC := Lib.hid c
  have HA := Lib.hid ap
  have HK := Lib.hid hk
  have d2 : (kd != 1) = true := by simpa using hk
  clear h c ap hk
  obtain ⟨rc, hrc⟩ : ∃ x, hpC m (vals l) kd = x := ⟨_, rfl⟩
  obtain ⟨rv, hrv⟩ : ∃ x, hpV (vals l) kd = x := ⟨_, rfl⟩
  obtain ⟨l2, hl2⟩ : ∃ x, (if kd = 2 then l.tail else l) = x := ⟨_, rfl⟩
  have HE := Lib.hid (And.intro hrc (And.intro hrv hl2))
  rw [hrc, hrv, hl2]
  clear hrc hrv hl2
  go_enter Tryz.func223, Tryz.ntmps223
  go_upto_region 1 with (fail)
  generalize hW : (w.alloc (.cells #[.int .u8 kd, .int .i32 kv] 38)).alloc (.cells #[.int .u8 0, .int .i32 0] 74) = W
  obtain ⟨o0, b0, hb, hs⟩ := begunS w _ _ W hW
  have c0 := o0.c0
  have c1 := o0.c1
  have HB := Lib.hid hb
  have HZ := Lib.hid b0
  clear hW hb o0 b0
  have C := takenAny (HH.out.fresh HB.out) kd kv HK.out
  rw [HE.out.1, HE.out.2.1, HE.out.2.2] at C
  have CC := Lib.hid C
  clear C
  go_wp2_with fail
  refine CC.out.mono ?_
  rintro e w1 ⟨rfl, d⟩
  have hF0 : ∀ g, F g → g < w.heap.size := HH.out.1
  have hG0 : ∀ g, G g → g < w.heap.size := HC.out.foot
  have dw := d
  obtain ⟨_, _, wr, _⟩ := dw
  have b1 := HZ.out.off (F := F) (fun e => by have := hF0 _ e; omega) wr
  have hs1 := wr.size
  have HD := Lib.hid (DidP.box (DidP.left (HC.out.fresh HB.out) HA.out d) HB.out (g := w.heap.size + 1) (by omega) (by omega) hF0 hG0 (.int .u8 rc) (.int .i32 rv))
  have c0 := b1.c0
  have c1 := b1.c1
  have f := b1.f
  have r := b1.set2 rc rv
  have r0 := r.c0
  have r1 := r.c1
  clear b1 r d wr hF0 hG0 hs1
  go_wp2
  exact bodyPost_ret (v := .agg #[.int .u8 rc, .int .i32 rv]) (by simp [results, Tryz.results223, go_sem, r0, r1]) rfl ⟨rfl, HD.out⟩
set_option maxRecDepth 100000 in
set_option maxHeartbeats 6400000 in
theorem doFull (h : SkO w F sp m l) (c : Coin w G q bs) (ap : Apart F G) (kv : Int) (hf : ¬ (l.length : Int) < m) :
    Calls Tryz.prog 223 #[.pointer (ptrS sp), .pointer (some ⟨q, 0, none⟩), .agg #[.int .u8 1, .int .i32 kv]] w fun e w' => e = .returned (.agg #[.int .u8 3, .int .i32 0]) ∧ DidP F G sp q m (l, bs) w w' := by
  have HH := Lib.hid h
  have HC := Lib.hid c
  have HA := Lib.hid ap
  have d0 : decide ((l.length : Int) < m) = false := by simpa using hf
  clear h c ap hf
  go_enter Tryz.func223, Tryz.ntmps223
  go_upto_region 1 with (fail)
  generalize hW : (w.alloc (.cells #[.int .u8 1, .int .i32 kv] 38)).alloc (.cells #[.int .u8 0, .int .i32 0] 74) = W
  obtain ⟨o0, b0, hb, hs⟩ := begunS w _ _ W hW
  have c0 := o0.c0
  have HB := Lib.hid hb
  have HZ := Lib.hid b0
  have HS := Lib.hid hs
  clear hW hb o0 b0 hs
  have R := (roomSO ((HH.out.fresh HB.out).fresh (Below.refl _ W).drew)).mono (fun e w' h => (⟨h.1, h.2.symm⟩ : e = .returned (.int .i64 (m - (l.length : Int))) ∧ w' = W.drew))
  have AD := Lib.hid (addedAny W.drew false)
  go_wp2_with fail
  refine wp_region_still_tail 11 (by kernel_rfl) (by kernel_rfl) ?_
  simp only [List.take_succ_cons, List.take_zero, List.drop_succ_cons, List.drop_zero]
  still_step
  still_call R
  repeat still_step
  refine wpStill_nil ?_
  clear R d0
  change wpList _ _ _ _ _ W.drew
  go_wp2_with fail
  refine AD.out.mono ?_
  rintro e w2 ⟨rfl, b2⟩
  have b1 := HZ.out.drew.keep b2
  have c0 := b1.c0
  have c1 := b1.c1
  have f := b1.f
  have r := b1.set2 3 0
  have r0 := r.c0
  have r1 := r.c1
  have HD := Lib.hid (DidP.box (DidP.still (s := (l, bs)) (HH.out.fresh HB.out) (HC.out.fresh HB.out) HA.out ((Below.refl _ W).drew.trans b2)) HB.out (g := w.heap.size + 1) (by omega) (by have := HS.out; omega) HH.out.1 HC.out.foot (.int .u8 3) (.int .i32 0))
  clear b1 r b2
  go_wp2
  exact bodyPost_ret (v := .agg #[.int .u8 3, .int .i32 0]) (by simp [results, Tryz.results223, go_sem, r0, r1]) rfl ⟨rfl, HD.out⟩

set_option maxRecDepth 100000 in
set_option maxHeartbeats 6400000 in
theorem doPut (h : Skip w F p m l) (c : Coin w G q bs) (ap : Apart F G) (kv : Int) (hf : (l.length : Int) < m) :
    Calls Tryz.prog 223 #[.pointer (some ⟨p, 0, none⟩), .pointer (some ⟨q, 0, none⟩), .agg #[.int .u8 1, .int .i32 kv]] w fun e w' => e = .returned (.agg #[.int .u8 1, .int .i32 0]) ∧ DidP F G (some p) q m (insIt ⟨kv, up bs + 1⟩ l, left bs) w w' := by
  have HH := Lib.hid h
  have HC := Lib.hid c
  have HA := Lib.hid ap
  have d0 : decide ((l.length : Int) < m) = true := by simpa using hf
  have HF := Lib.hid hf
  have HU := Lib.hid (show hOf ((up bs : Int) + 1) = up bs + 1 by have hu := up_le bs; unfold hOf; split <;> (try split) <;> omega)
  clear h c ap hf
  go_enter Tryz.func223, Tryz.ntmps223
  go_upto_region 1 with (fail)
  generalize hW : (w.alloc (.cells #[.int .u8 1, .int .i32 kv] 38)).alloc (.cells #[.int .u8 0, .int .i32 0] 74) = W
  obtain ⟨o0, b0, hb, hs⟩ := begunS w _ _ W hW
  have c0 := o0.c0
  have HO := Lib.hid o0
  have HB := Lib.hid hb
  have HZ := Lib.hid b0
  have HS := Lib.hid hs
  clear hW hb o0 b0 hs
  have HHd := Lib.hid ((HH.out.fresh HB.out).drew)
  have HCd := Lib.hid ((HC.out.fresh HB.out).drew)
  have R := Lib.hid (roomSO (SkO.of HHd.out))
  have HT := Lib.hid (heightAny HCd.out)
  have hF0 : ∀ g, F g → g < w.heap.size := HH.out.foot
  have hG0 : ∀ g, G g → g < w.heap.size := HC.out.foot
  go_wp2_with fail
  have z1 := HO.out.drew.c1
  go_region_held3 (fun w' => w'.cell? ⟨w.heap.size, 1, none⟩ = some (.int .i32 kv)) (first | exact z1 | exact z2 | exact z3 | exact z4 | exact cellOther _ (by simp) (cellOther _ (by simp) z4) | exact cellOther _ (by simp) z4) (first
    | (go_at_call 219; refine R.out.mono ?_; rintro e w1 ⟨rfl, rfl⟩)
    | (go_at_call 152; refine HT.out.mono ?_; rintro e w2 ⟨rfl, d⟩; have dw := d; obtain ⟨G2, k2, wr2, l2⟩ := dw; have o2 := HO.out.drew.off (F := G) (fun e => by have := hG0 _ e; omega) wr2; have x2 := HZ.out.drew.off (F := G) (fun e => by have := hG0 _ e; omega) wr2; have z2 := o2.c1; have HQ := Lib.hid (And.intro (DidP.right (SkO.of HHd.out) HA.out d) (And.intro o2 x2)); have IN := Lib.hid (insertOk (HHd.out.apart wr2 HA.out) HF.out kv ((up bs : Int) + 1)); rw [HU.out] at IN; have HG2 := Lib.hid (And.intro k2 (And.intro wr2 (And.intro l2 (l2.apart HA.out.symm HHd.out.foot)))); clear d k2 wr2 l2 o2 x2)
    | (go_at_call 233; refine IN.out.mono ?_; rintro e w3 ⟨rfl, d⟩; have dw := d; obtain ⟨F3, k3, wr3, l3⟩ := dw; have o3 := HQ.out.2.1.off (F := F) (fun e => by have := hF0 _ e; omega) wr3; have x3 := HQ.out.2.2.off (F := F) (fun e => by have := hF0 _ e; omega) wr3; have z3 := o3.c1; have HQ3 := Lib.hid (And.intro (DidP.trans (HG2.out.2.1.into (fun _ h => Or.inr h)) (Later.refl _ _) HG2.out.2.2.1 (DidP.left HG2.out.1 HG2.out.2.2.2.symm (DidSO.of d))) (And.intro o3 x3)); have AD := Lib.hid (addedAny w3 true); clear d k3 wr3 l3 o3 x3)
    | (go_at_call 220; refine AD.out.mono ?_; rintro e w4 ⟨rfl, b4⟩; have o4 := HQ3.out.2.1.keep b4; have z4 := o4.c1; have b1 := HQ3.out.2.2.keep b4; have c0 := b1.c0; have c1 := b1.c1; have f := b1.f; have HB4 := Lib.hid b4; have HB1 := Lib.hid b1; clear b1 b4 o4))
  all_goals
    have r := HB1.out.set2 1 0
    have r0 := r.c0
    have r1 := r.c1
    have HD := Lib.hid (DidP.box (DidP.less (Below.refl _ W).drew (HQ3.out.1.more HB4.out)) HB.out (g := w.heap.size + 1) (by omega) (by have := HS.out; omega) hF0 hG0 (.int .u8 1) (.int .i32 0))
    go_wp2
    exact bodyPost_ret (v := .agg #[.int .u8 1, .int .i32 0]) (by simp [results, Tryz.results223, go_sem, r0, r1]) rfl ⟨rfl, HD.out⟩

theorem doAny (h : SkO w F sp m l) (c : Coin w G q bs) (ap : Apart F G) (kd kv : Int) :
    Calls Tryz.prog 223 #[.pointer (ptrS sp), .pointer (some ⟨q, 0, none⟩), .agg #[.int .u8 kd, .int .i32 kv]] w fun e w' => e = .returned (.agg #[.int .u8 (hpC m (vals l) kd), .int .i32 (hpV (vals l) kd)]) ∧ DidP F G sp q m (stS m (l, bs) (kd, kv)) w w' := by
  by_cases hk : kd = 1
  · subst hk
    by_cases hf : (l.length : Int) < m
    · cases sp with
      | none => obtain ⟨_, rfl, rfl⟩ := h; simp at hf
      | some p =>
        have := doPut h.2 c ap kv hf
        simpa [ptrS, hpC, hpV, stS, vals_length, hf] using this
    · have := doFull h c ap kv hf
      simpa [hpC, hpV, stS, vals_length, hf] using this
  · have := doOther h c ap kd kv hk
    have e : stS m (l, bs) (kd, kv) = ((if kd = 2 then l.tail else l), bs) := by
      unfold stS
      rw [if_neg hk]
      split <;> rfl
    rw [e]
    exact this
end

end Go.Proofs.YtikaoikladbdpaaGreat
