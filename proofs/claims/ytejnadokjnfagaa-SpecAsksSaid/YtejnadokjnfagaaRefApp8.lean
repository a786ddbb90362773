/-
  What reaperref08.Apply tells: as objL, objC and objV say. Conditions: a list of at most a thousand numbers; a kind of 0 to 255.
-/
import Derived.Test.YtejnadokjnfagaaRefHeap8
namespace Go.Proofs.Ytejnadokjnfagaa
open Go.RowKit Go.Lib

section
variable {w W w1 : World} {ao : Option Addr} {n cap : Nat} {zs : List Int}

theorem heapDo (most k x : Int) (hr : Reads .i32 w ao n zs) (hc : n ≤ cap) (hn : n ≤ 1000) :
    Calls Try.prog 29 #[.int .i64 most, .slice ao n cap, .agg #[.int .u8 k, .int .i32 x]] w (RefTold w ao zs (hpL (mostOf most) zs k x) (hpC (mostOf most) zs k) (hpV zs k)) := by
  have hl := hr.1
  by_cases e1 : k = 1
  · subst e1
    by_cases hf : (n : Int) < mostOf most
    · have := heapAdd most x hr hc hn hf
      simpa [hpC, hpV, hpL, hl, hf] using this
    · have := heapFull most x hr hc hn (by omega)
      simpa [hpC, hpV, hpL, hl, hf] using this
  · by_cases e2 : k = 2
    · subst e2
      cases zs with
      | nil =>
        have := heapNone most x hr hc (by simpa using hl.symm)
        simpa [hpC, hpV, hpL] using this
      | cons y ys =>
        obtain ⟨m, rfl⟩ : ∃ m, n = m + 1 := ⟨n - 1, by simp at hl; omega⟩
        by_cases h1 : cap = 1
        · have := heapPop1 most x y hr hc h1 (by omega)
          simpa [hpC, hpV, hpL] using this
        · have := heapPop most x y hr hc h1 (by omega)
          simpa [hpC, hpV, hpL] using this
    · have := heapBad most x hr hc hn k e1 e2
      simpa [hpC, hpV, hpL, e1, e2] using this

/-- The boxes with which it begins: the operation, what is told, what it is told. -/
theorem begunApp (w : World) (k x : Int) : ∀ W, ((w.alloc (.cells #[.int .u8 k, .int .i32 x] 36)).alloc (.cells #[.int .u8 0, .int .i32 0] 32)).alloc (.cells #[.int .u8 5, .int .i32 0] 32) = W →
    W.cell? ⟨w.heap.size, 0, none⟩ = some (.int .u8 k) ∧ W.cell? ⟨w.heap.size, 1, none⟩ = some (.int .i32 x) ∧ RBox W (w.heap.size + 1) 0 0 ∧ RBox W (w.heap.size + 2) 5 0 ∧ Below w.heap.size w W ∧ W.heap.size = w.heap.size + 3 := by
  rintro W rfl
  refine ⟨?_, ?_, ?_, ?_, (((Below.refl _ _).alloc (Nat.le_refl _) _).alloc (by simp) _).alloc (by simp; omega) _, by simp⟩
  · go_simp
  · go_simp
  · have := RBox.new (w.alloc (.cells #[.int .u8 k, .int .i32 x] 36)) 0 0
    have h := this.keep (b := ((w.alloc (.cells #[.int .u8 k, .int .i32 x] 36)).alloc (.cells #[.int .u8 0, .int .i32 0] 32)).alloc (.cells #[.int .u8 5, .int .i32 0] 32)) ((Below.refl _ _).alloc (Nat.le_refl _) _)
    simpa using h
  · have := RBox.new ((w.alloc (.cells #[.int .u8 k, .int .i32 x] 36)).alloc (.cells #[.int .u8 0, .int .i32 0] 32)) 5 0
    simpa using this

/-- What was told, behind the stores into its own boxes. -/
theorem app_told {Z : List Int} {c v : Int} {ao' : Option Addr} {cap' : Nat} {w2 : World} (hs : W.heap.size = w.heap.size + 3) (hb : Below w.heap.size w W) (hr' : Reads .i32 w1 ao' Z.length Z) (hc : Z.length ≤ cap') (hl : (ao' = ao ∧ Z = zs) ∨ ∀ a, ao' = some a → W.heap.size ≤ a.block ∧ a.block < w1.heap.size)
    (hold : Reads .i32 w ao n zs) (hb1 : Below W.heap.size W w1) (hw : Wrote (fun g => g = w.heap.size + 1 ∨ g = w.heap.size + 2) w1 w2) :
    RefTold w ao zs Z c v (.returned (.tuple #[.slice ao' Z.length cap', .agg #[.int .u8 c, .int .i32 v]])) w2 := by
  have hb2 : Below w.heap.size w w2 := (hb.trans (hb1.mono hb.size)).trans (hw.below (Nat.le_trans hb.size hb1.size) (fun g hg => by omega))
  rcases hl with ⟨e, e'⟩ | h
  · subst e e'
    have h := hold
    rw [← h.1] at h
    exact ⟨_, _, rfl, h.keep hb2, hc, .inl ⟨rfl, rfl⟩, hb2⟩
  · refine ⟨_, _, rfl, hr'.off (fun a ha hg => ?_) hw, hc, .inr (fun a ha => ⟨?_, ?_⟩), hb2⟩
    · have := (h a ha).1; omega
    · have := (h a ha).1; omega
    · exact Nat.lt_of_lt_of_le (h a ha).2 hw.size
end

section
variable {w : World} {ao : Option Addr} {n cap : Nat} {zs : List Int}

set_option maxRecDepth 100000 in
set_option maxHeartbeats 8000000 in
theorem refApply1 (most k x : Int) (hr : Reads .i32 w ao n zs) (hc : n ≤ cap) (hn : n ≤ 1000) (_ : 0 ≤ k) :
    Calls Try.prog 22 #[.int .u8 1, .int .i64 most, .slice ao n cap, .agg #[.int .u8 k, .int .i32 x]] w (RefTold w ao zs (stkL (mostOf most) zs k x) (stkC (mostOf most) zs k) (stkV zs k)) := by
  have HR := Lib.hid hr
  clear hr
  go_enter Try.func22, Try.ntmps22
  go_upto_region 3 with (fail)
  generalize hW : ((w.alloc (.cells #[.int .u8 k, .int .i32 x] 36)).alloc (.cells #[.int .u8 0, .int .i32 0] 32)).alloc (.cells #[.int .u8 5, .int .i32 0] 32) = W
  obtain ⟨o0, o1, b0, b1, hb, hs⟩ := begunApp w _ _ W hW
  have HB := Lib.hid hb
  have HS := Lib.hid hs
  have C := refDo most k x (HR.out.keep hb) hc hn
  have HC := Lib.hid C
  have HX := Lib.hid (And.intro b0 b1)
  clear hW hb hs C b0 b1
  go_wp2_with fail
  refine HC.out.mono ?_
  rintro e w1 ⟨ao', cap', rfl, r1, c1, l1, bl1⟩
  obtain ⟨Z, hZ⟩ : ∃ Z, (stkL (mostOf most) zs k x) = Z := ⟨_, rfl⟩
  obtain ⟨rc, hrc⟩ : ∃ c, (stkC (mostOf most) zs k) = c := ⟨_, rfl⟩
  obtain ⟨rv, hrv⟩ : ∃ c, (stkV zs k) = c := ⟨_, rfl⟩
  rw [hZ] at r1 c1 l1
  simp only [hZ, hrc, hrv]
  have z0 : RBox w1 (w.heap.size + 1) 0 0 := HX.out.1.keep bl1
  have z1 : RBox w1 (w.heap.size + 2) 5 0 := HX.out.2.keep bl1
  have HE0 := Lib.hid (show ∀ w2, Wrote (fun g => g = w.heap.size + 1 ∨ g = w.heap.size + 2) w1 w2 → RefTold w ao zs (stkL (mostOf most) zs k x) (stkC (mostOf most) zs k) (stkV zs k) (.returned (.tuple #[.slice ao' Z.length cap', .agg #[.int .u8 rc, .int .i32 rv]])) w2 from fun w2 hw => by
    rw [hZ, hrc, hrv]
    exact app_told HS.out HB.out r1 c1 l1 HR.out bl1 hw)
  have q0 := z1.c0
  have q1 := z1.c1
  have qf := z1.f
  clear r1 c1 l1 bl1 HC HX hZ hrc hrv
  go_upto_region 10 with (fail)
  have z1' := z1.set2 rc rv
  have z0' := z0.off (F := fun g => g = w.heap.size + 2) (by simp) (((Wrote.refl (fun g => g = w.heap.size + 2) w1).setCell (q := ⟨w.heap.size + 2, 0, none⟩) (.inr rfl) (.int .u8 rc)).setCell (q := ⟨w.heap.size + 2, 1, none⟩) (.inr rfl) (.int .i32 rv))
  have HZW := Lib.hid (((Wrote.refl (fun g => g = w.heap.size + 1 ∨ g = w.heap.size + 2) w1).setCell (q := ⟨w.heap.size + 2, 0, none⟩) (.inr (.inr rfl)) (.int .u8 rc)).setCell (q := ⟨w.heap.size + 2, 1, none⟩) (.inr (.inr rfl)) (.int .i32 rv))
  clear z0 z1 q0 q1 qf
  generalize ((w1.setCell ⟨w.heap.size + 2, 0, none⟩ (.int .u8 rc)).setCell ⟨w.heap.size + 2, 1, none⟩ (.int .i32 rv)) = w2 at *
  have z0 := z0'
  have z1 := z1'
  clear z0' z1'
  clear o0 o1
  have r := z0.set2 rc rv
  have r0 := r.c0
  have r1 := r.c1
  clear r
  have HZ := Lib.hid z0
  have d0 := z0.c0
  have d1 := z0.c1
  have df := z0.f
  have y0 := z1.c0
  have y1 := z1.c1
  clear z0 z1
  go_region
  all_goals
    have HE := Lib.hid (HE0.out _ (((HZW.out.setCell (q := ⟨w.heap.size + 1, 0, none⟩) (.inr (.inl rfl)) (.int .u8 rc)).setCell (q := ⟨w.heap.size + 1, 1, none⟩) (.inr (.inl rfl)) (.int .i32 rv)).drew))
    clear d0 d1 df y0 y1
    go_wp2
    exact bodyPost_ret (v := .tuple #[.slice ao' Z.length cap', .agg #[.int .u8 rc, .int .i32 rv]]) (by simp [results, Try.results22, go_sem, r0, r1]) rfl HE.out

set_option maxRecDepth 100000 in
set_option maxHeartbeats 8000000 in
theorem refApply2 (most k x : Int) (hr : Reads .i32 w ao n zs) (hc : n ≤ cap) (hn : n ≤ 1000) (k0 : 0 ≤ k) :
    Calls Try.prog 22 #[.int .u8 2, .int .i64 most, .slice ao n cap, .agg #[.int .u8 k, .int .i32 x]] w (RefTold w ao zs (dqL (mostOf most) zs k x) (dqC (mostOf most) zs k) (dqV zs k)) := by
  have HR := Lib.hid hr
  clear hr
  go_enter Try.func22, Try.ntmps22
  go_upto_region 3 with (fail)
  generalize hW : ((w.alloc (.cells #[.int .u8 k, .int .i32 x] 36)).alloc (.cells #[.int .u8 0, .int .i32 0] 32)).alloc (.cells #[.int .u8 5, .int .i32 0] 32) = W
  obtain ⟨o0, o1, b0, b1, hb, hs⟩ := begunApp w _ _ W hW
  have HB := Lib.hid hb
  have HS := Lib.hid hs
  have C := ref5Do most k x (HR.out.keep hb) hc hn k0
  have HC := Lib.hid C
  have HX := Lib.hid (And.intro b0 b1)
  clear hW hb hs C b0 b1
  go_wp2_with fail
  refine HC.out.mono ?_
  rintro e w1 ⟨ao', cap', rfl, r1, c1, l1, bl1⟩
  obtain ⟨Z, hZ⟩ : ∃ Z, (dqL (mostOf most) zs k x) = Z := ⟨_, rfl⟩
  obtain ⟨rc, hrc⟩ : ∃ c, (dqC (mostOf most) zs k) = c := ⟨_, rfl⟩
  obtain ⟨rv, hrv⟩ : ∃ c, (dqV zs k) = c := ⟨_, rfl⟩
  rw [hZ] at r1 c1 l1
  simp only [hZ, hrc, hrv]
  have z0 : RBox w1 (w.heap.size + 1) 0 0 := HX.out.1.keep bl1
  have z1 : RBox w1 (w.heap.size + 2) 5 0 := HX.out.2.keep bl1
  have HE0 := Lib.hid (show ∀ w2, Wrote (fun g => g = w.heap.size + 1 ∨ g = w.heap.size + 2) w1 w2 → RefTold w ao zs (dqL (mostOf most) zs k x) (dqC (mostOf most) zs k) (dqV zs k) (.returned (.tuple #[.slice ao' Z.length cap', .agg #[.int .u8 rc, .int .i32 rv]])) w2 from fun w2 hw => by
    rw [hZ, hrc, hrv]
    exact app_told HS.out HB.out r1 c1 l1 HR.out bl1 hw)
  have q0 := z1.c0
  have q1 := z1.c1
  have qf := z1.f
  clear r1 c1 l1 bl1 HC HX hZ hrc hrv
  go_upto_region 10 with (fail)
  have z1' := z1.set2 rc rv
  have z0' := z0.off (F := fun g => g = w.heap.size + 2) (by simp) (((Wrote.refl (fun g => g = w.heap.size + 2) w1).setCell (q := ⟨w.heap.size + 2, 0, none⟩) (.inr rfl) (.int .u8 rc)).setCell (q := ⟨w.heap.size + 2, 1, none⟩) (.inr rfl) (.int .i32 rv))
  have HZW := Lib.hid (((Wrote.refl (fun g => g = w.heap.size + 1 ∨ g = w.heap.size + 2) w1).setCell (q := ⟨w.heap.size + 2, 0, none⟩) (.inr (.inr rfl)) (.int .u8 rc)).setCell (q := ⟨w.heap.size + 2, 1, none⟩) (.inr (.inr rfl)) (.int .i32 rv))
  clear z0 z1 q0 q1 qf
  generalize ((w1.setCell ⟨w.heap.size + 2, 0, none⟩ (.int .u8 rc)).setCell ⟨w.heap.size + 2, 1, none⟩ (.int .i32 rv)) = w2 at *
  have z0 := z0'
  have z1 := z1'
  clear z0' z1'
  clear o0 o1
  have r := z0.set2 rc rv
  have r0 := r.c0
  have r1 := r.c1
  clear r
  have HZ := Lib.hid z0
  have d0 := z0.c0
  have d1 := z0.c1
  have df := z0.f
  have y0 := z1.c0
  have y1 := z1.c1
  clear z0 z1
  go_region
  all_goals
    have HE := Lib.hid (HE0.out _ (((HZW.out.setCell (q := ⟨w.heap.size + 1, 0, none⟩) (.inr (.inl rfl)) (.int .u8 rc)).setCell (q := ⟨w.heap.size + 1, 1, none⟩) (.inr (.inl rfl)) (.int .i32 rv)).drew))
    clear d0 d1 df y0 y1
    go_wp2
    exact bodyPost_ret (v := .tuple #[.slice ao' Z.length cap', .agg #[.int .u8 rc, .int .i32 rv]]) (by simp [results, Try.results22, go_sem, r0, r1]) rfl HE.out

set_option maxRecDepth 100000 in
set_option maxHeartbeats 8000000 in
theorem refApply3 (most k x : Int) (hr : Reads .i32 w ao n zs) (hc : n ≤ cap) (hn : n ≤ 1000) (_ : 0 ≤ k) :
    Calls Try.prog 22 #[.int .u8 3, .int .i64 most, .slice ao n cap, .agg #[.int .u8 k, .int .i32 x]] w (RefTold w ao zs (hpL (mostOf most) zs k x) (hpC (mostOf most) zs k) (hpV zs k)) := by
  have HR := Lib.hid hr
  clear hr
  go_enter Try.func22, Try.ntmps22
  go_upto_region 3 with (fail)
  generalize hW : ((w.alloc (.cells #[.int .u8 k, .int .i32 x] 36)).alloc (.cells #[.int .u8 0, .int .i32 0] 32)).alloc (.cells #[.int .u8 5, .int .i32 0] 32) = W
  obtain ⟨o0, o1, b0, b1, hb, hs⟩ := begunApp w _ _ W hW
  have HB := Lib.hid hb
  have HS := Lib.hid hs
  have C := heapDo most k x (HR.out.keep hb) hc hn
  have HC := Lib.hid C
  have HX := Lib.hid (And.intro b0 b1)
  clear hW hb hs C b0 b1
  go_wp2_with fail
  refine HC.out.mono ?_
  rintro e w1 ⟨ao', cap', rfl, r1, c1, l1, bl1⟩
  obtain ⟨Z, hZ⟩ : ∃ Z, (hpL (mostOf most) zs k x) = Z := ⟨_, rfl⟩
  obtain ⟨rc, hrc⟩ : ∃ c, (hpC (mostOf most) zs k) = c := ⟨_, rfl⟩
  obtain ⟨rv, hrv⟩ : ∃ c, (hpV zs k) = c := ⟨_, rfl⟩
  rw [hZ] at r1 c1 l1
  simp only [hZ, hrc, hrv]
  have z0 : RBox w1 (w.heap.size + 1) 0 0 := HX.out.1.keep bl1
  have z1 : RBox w1 (w.heap.size + 2) 5 0 := HX.out.2.keep bl1
  have HE0 := Lib.hid (show ∀ w2, Wrote (fun g => g = w.heap.size + 1 ∨ g = w.heap.size + 2) w1 w2 → RefTold w ao zs (hpL (mostOf most) zs k x) (hpC (mostOf most) zs k) (hpV zs k) (.returned (.tuple #[.slice ao' Z.length cap', .agg #[.int .u8 rc, .int .i32 rv]])) w2 from fun w2 hw => by
    rw [hZ, hrc, hrv]
    exact app_told HS.out HB.out r1 c1 l1 HR.out bl1 hw)
  have q0 := z1.c0
  have q1 := z1.c1
  have qf := z1.f
  clear r1 c1 l1 bl1 HC HX hZ hrc hrv
  go_upto_region 10 with (fail)
  have z1' := z1.set2 rc rv
  have z0' := z0.off (F := fun g => g = w.heap.size + 2) (by simp) (((Wrote.refl (fun g => g = w.heap.size + 2) w1).setCell (q := ⟨w.heap.size + 2, 0, none⟩) (.inr rfl) (.int .u8 rc)).setCell (q := ⟨w.heap.size + 2, 1, none⟩) (.inr rfl) (.int .i32 rv))
  have HZW := Lib.hid (((Wrote.refl (fun g => g = w.heap.size + 1 ∨ g = w.heap.size + 2) w1).setCell (q := ⟨w.heap.size + 2, 0, none⟩) (.inr (.inr rfl)) (.int .u8 rc)).setCell (q := ⟨w.heap.size + 2, 1, none⟩) (.inr (.inr rfl)) (.int .i32 rv))
  clear z0 z1 q0 q1 qf
  generalize ((w1.setCell ⟨w.heap.size + 2, 0, none⟩ (.int .u8 rc)).setCell ⟨w.heap.size + 2, 1, none⟩ (.int .i32 rv)) = w2 at *
  have z0 := z0'
  have z1 := z1'
  clear z0' z1'
  clear o0 o1
  have r := z0.set2 rc rv
  have r0 := r.c0
  have r1 := r.c1
  clear r
  have HZ := Lib.hid z0
  have d0 := z0.c0
  have d1 := z0.c1
  have df := z0.f
  have y0 := z1.c0
  have y1 := z1.c1
  clear z0 z1
  go_region
  all_goals
    have HE := Lib.hid (HE0.out _ (((HZW.out.setCell (q := ⟨w.heap.size + 1, 0, none⟩) (.inr (.inl rfl)) (.int .u8 rc)).setCell (q := ⟨w.heap.size + 1, 1, none⟩) (.inr (.inl rfl)) (.int .i32 rv)).drew))
    clear d0 d1 df y0 y1
    go_wp2
    exact bodyPost_ret (v := .tuple #[.slice ao' Z.length cap', .agg #[.int .u8 rc, .int .i32 rv]]) (by simp [results, Try.results22, go_sem, r0, r1]) rfl HE.out

set_option maxRecDepth 100000 in
set_option maxHeartbeats 8000000 in
theorem refApply0 (obj : Int) (most k x : Int) (hr : Reads .i32 w ao n zs) (hc : n ≤ cap) (_ : n ≤ 1000) (_ : 0 ≤ k) (e1 : ¬ obj = 1) (e2 : ¬ obj = 2) (e3 : ¬ obj = 3) :
    Calls Try.prog 22 #[.int .u8 obj, .int .i64 most, .slice ao n cap, .agg #[.int .u8 k, .int .i32 x]] w (RefTold w ao zs zs 5 0) := by
  have HR := Lib.hid hr
  clear hr
  have t1 := beq_eq_false_iff_ne.2 e1
  have t2 := beq_eq_false_iff_ne.2 e2
  have t3 := beq_eq_false_iff_ne.2 e3
  clear e1 e2 e3
  go_enter Try.func22, Try.ntmps22
  go_upto_region 3 with (fail)
  generalize hW : ((w.alloc (.cells #[.int .u8 k, .int .i32 x] 36)).alloc (.cells #[.int .u8 0, .int .i32 0] 32)).alloc (.cells #[.int .u8 5, .int .i32 0] 32) = W
  obtain ⟨o0, o1, b0, b1, hb, hs⟩ := begunApp w _ _ W hW
  have HB := Lib.hid hb
  have HS := Lib.hid hs
  have z0 := b0
  have z1 := b1
  clear hW b0 b1 hb hs
  obtain ⟨rc, hrc⟩ : ∃ c : Int, 5 = c := ⟨_, rfl⟩
  obtain ⟨rv, hrv⟩ : ∃ c : Int, 0 = c := ⟨_, rfl⟩
  go_upto_region 10 with (fail)
  rw [hrc, hrv] at z1
  have HZW := Lib.hid (Wrote.refl (fun g => g = w.heap.size + 1 ∨ g = w.heap.size + 2) W)
  have HE0 := Lib.hid (show ∀ w2, Wrote (fun g => g = w.heap.size + 1 ∨ g = w.heap.size + 2) W w2 → RefTold w ao zs zs 5 0 (.returned (.tuple #[.slice ao n cap, .agg #[.int .u8 rc, .int .i32 rv]])) w2 from fun w2 hw => by
    have h := app_told (c := rc) (v := rv) (cap' := cap) (ao' := ao) HS.out HB.out (by rw [HR.out.1]; exact HR.out.keep HB.out) (by rw [HR.out.1]; exact hc) (.inl ⟨rfl, rfl⟩) HR.out (Below.refl _ _) hw
    rw [HR.out.1] at h
    rw [hrc, hrv]
    exact h)
  clear hrc hrv
  clear o0 o1
  have r := z0.set2 rc rv
  have r0 := r.c0
  have r1 := r.c1
  clear r
  have HZ := Lib.hid z0
  have d0 := z0.c0
  have d1 := z0.c1
  have df := z0.f
  have y0 := z1.c0
  have y1 := z1.c1
  clear z0 z1
  go_region
  all_goals
    have HE := Lib.hid (HE0.out _ (((HZW.out.setCell (q := ⟨w.heap.size + 1, 0, none⟩) (.inr (.inl rfl)) (.int .u8 rc)).setCell (q := ⟨w.heap.size + 1, 1, none⟩) (.inr (.inl rfl)) (.int .i32 rv)).drew))
    clear d0 d1 df y0 y1
    go_wp2
    exact bodyPost_ret (v := .tuple #[.slice ao n cap, .agg #[.int .u8 rc, .int .i32 rv]]) (by simp [results, Try.results22, go_sem, r0, r1]) rfl HE.out

/-- Whatever the object is. -/
theorem refApply (obj most k x : Int) (hr : Reads .i32 w ao n zs) (hc : n ≤ cap) (hn : n ≤ 1000) (k0 : 0 ≤ k) :
    Calls Try.prog 22 #[.int .u8 obj, .int .i64 most, .slice ao n cap, .agg #[.int .u8 k, .int .i32 x]] w (RefTold w ao zs (objL obj (mostOf most) zs k x) (objC obj (mostOf most) zs k) (objV obj zs k)) := by
  by_cases e1 : obj = 1
  · subst e1
    simpa [objL, objC, objV] using refApply1 most k x hr hc hn k0
  · by_cases e2 : obj = 2
    · subst e2
      simpa [objL, objC, objV] using refApply2 most k x hr hc hn k0
    · by_cases e3 : obj = 3
      · subst e3
        simpa [objL, objC, objV] using refApply3 most k x hr hc hn k0
      · simpa [objL, objC, objV, e1, e2, e3] using refApply0 obj most k x hr hc hn k0 e1 e2 e3
end

end Go.Proofs.Ytejnadokjnfagaa
