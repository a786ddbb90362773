/-
  What reaperref08.heap tells: as hpL, hpC and hpV say. Conditions: a list of at most a thousand numbers.
-/
import Derived.Test.YtejnadokjnfagaaRef05S
import Derived.Test.YtejnadokjnfagaaRunPl8
namespace Go.Proofs.Ytejnadokjnfagaa
open Go.RowKit

section
variable {w W w1 : World} {ao : Option Addr} {n cap : Nat} {zs : List Int}

set_option maxHeartbeats 3200000 in
theorem heapFull (most x : Int) (hr : Reads .i32 w ao n zs) (hc : n ≤ cap) (_ : n ≤ 1000) (hf : mostOf most ≤ n) :
    Calls Try.prog 29 #[.int .i64 most, .slice ao n cap, .agg #[.int .u8 1, .int .i32 x]] w (RefTold w ao zs zs 3 0) := by
  have HR := Lib.hid hr
  clear hr
  go_enter Try.func29, Try.ntmps29
  go_upto_region 1 with (fail)
  generalize hW : (w.alloc (.cells #[.int .u8 1, .int .i32 x] 36)).alloc (.cells #[.int .u8 0, .int .i32 0] 32) = W
  obtain ⟨o0, o1, b0, hb, hs⟩ := begunRef w _ _ W hW
  have c0 := b0.c0
  have c1 := b0.c1
  have f := b0.f
  have HB := Lib.hid hb
  have HS := Lib.hid hs
  have HX := Lib.hid b0
  clear hW hb hs b0
  have r := HX.out.set2 3 0
  have r0 := r.c0
  have r1 := r.c1
  clear r
  have M := refMost most W
  go_wp2_with (go_at_call 40; refine M.mono ?_; rintro e w' ⟨rfl, rfl⟩)
  exact bodyPost_ret (v := .tuple #[.slice ao n cap, .agg #[.int .u8 3, .int .i32 0]]) (by simp [results, Try.results29, go_sem, r0, r1]) rfl (told_old HR.out hc HB.out)


set_option maxHeartbeats 3200000 in
theorem heapNone (most x : Int) (hr : Reads .i32 w ao n zs) (hc : n ≤ cap) (h0 : n = 0) :
    Calls Try.prog 29 #[.int .i64 most, .slice ao n cap, .agg #[.int .u8 2, .int .i32 x]] w (RefTold w ao zs zs 4 0) := by
  have HR := Lib.hid hr
  clear hr
  have h1 : ¬ 0 < n := by omega
  subst h0
  clear h1
  go_enter Try.func29, Try.ntmps29
  go_upto_region 1 with (fail)
  generalize hW : (w.alloc (.cells #[.int .u8 2, .int .i32 x] 36)).alloc (.cells #[.int .u8 0, .int .i32 0] 32) = W
  obtain ⟨o0, o1, b0, hb, hs⟩ := begunRef w _ _ W hW
  have c0 := b0.c0
  have c1 := b0.c1
  have f := b0.f
  have HB := Lib.hid hb
  have HS := Lib.hid hs
  have HX := Lib.hid b0
  clear hW hb hs b0
  have r := HX.out.set2 4 0
  have r0 := r.c0
  have r1 := r.c1
  clear r
  have M := refMost most W
  go_wp2_with (go_at_call 40; refine M.mono ?_; rintro e w' ⟨rfl, rfl⟩)
  exact bodyPost_ret (v := .tuple #[.slice ao 0 cap, .agg #[.int .u8 4, .int .i32 0]]) (by simp [results, Try.results29, go_sem, r0, r1]) rfl (told_old HR.out hc HB.out)


set_option maxHeartbeats 3200000 in
theorem heapBad (most x : Int) (hr : Reads .i32 w ao n zs) (hc : n ≤ cap) (_ : n ≤ 1000) (k : Int) (k0 : k ≠ 1) (k1 : k ≠ 2) :
    Calls Try.prog 29 #[.int .i64 most, .slice ao n cap, .agg #[.int .u8 k, .int .i32 x]] w (RefTold w ao zs zs 5 0) := by
  have HR := Lib.hid hr
  clear hr
  have d1 := beq_eq_false_iff_ne.2 k0
  have d2 := beq_eq_false_iff_ne.2 k1
  clear k0 k1
  go_enter Try.func29, Try.ntmps29
  go_upto_region 1 with (fail)
  generalize hW : (w.alloc (.cells #[.int .u8 k, .int .i32 x] 36)).alloc (.cells #[.int .u8 0, .int .i32 0] 32) = W
  obtain ⟨o0, o1, b0, hb, hs⟩ := begunRef w _ _ W hW
  have c0 := b0.c0
  have c1 := b0.c1
  have f := b0.f
  have HB := Lib.hid hb
  have HS := Lib.hid hs
  have HX := Lib.hid b0
  clear hW hb hs b0
  have r := HX.out.set2 5 0
  have r0 := r.c0
  have r1 := r.c1
  clear r
  have M := refMost most W
  go_wp2_with (go_at_call 40; refine M.mono ?_; rintro e w' ⟨rfl, rfl⟩)
  exact bodyPost_ret (v := .tuple #[.slice ao n cap, .agg #[.int .u8 5, .int .i32 0]]) (by simp [results, Try.results29, go_sem, r0, r1]) rfl (told_old HR.out hc HB.out)


set_option maxHeartbeats 3200000 in
theorem heapPop (most x y : Int) (hr : Reads .i32 w ao (n + 1) (y :: zs)) (hc : n + 1 ≤ cap) (h1 : ¬ cap = 1) (hn : n ≤ 1000) :
    Calls Try.prog 29 #[.int .i64 most, .slice ao (n + 1) cap, .agg #[.int .u8 2, .int .i32 x]] w (RefTold w ao (y :: zs) zs 2 y) := by
  obtain ⟨i0, hi, hz0, hz1, hz2⟩ := info_parts infoI32
  obtain ⟨b, off, rfl⟩ := reads_some hr
  have HL := Lib.hid (show zs.length = n by have := hr.1; simpa using this)
  have HR := Lib.hid (reads_tail hr)
  obtain ⟨b', off', e, bl, hcs⟩ := hr.2 (by omega)
  simp only [Option.some.injEq, Addr.mk.injEq, and_true] at e
  obtain ⟨rfl, rfl⟩ := e
  have cy : w.cell? ⟨b, off, none⟩ = some (.int .i32 y) := hcs 0 (by omega)
  clear hr hcs
  have i1 : 1 ≤ cap := by omega
  have i2 : (1 : Int) ≤ cap := by omega
  go_enter Try.func29, Try.ntmps29
  go_upto_region 1 with (fail)
  generalize hW : (w.alloc (.cells #[.int .u8 2, .int .i32 x] 36)).alloc (.cells #[.int .u8 0, .int .i32 0] 32) = W
  obtain ⟨o0, o1, b0, hb, hs⟩ := begunRef w _ _ W hW
  have c0 := b0.c0
  have c1 := b0.c1
  have f := b0.f
  have HB := Lib.hid hb
  have HS := Lib.hid hs
  have HX := Lib.hid b0
  clear hW hb hs b0
  clear c0 c1 f
  have HCY := Lib.hid (And.intro bl cy)
  have M := refMost most W
  clear cy
  go_upto_region 17 with (first | (go_at_call 40; refine M.mono ?_; rintro e w' ⟨rfl, rfl⟩) | (at_builtin; refine wpList_append_src _ rfl (.tmp 75) (.tmp 77) 22 rfl W.heap.size 21 i0 _ 1 4 Try.underlying22 hi hz0 hz1 hz2 rfl (by decide) (.slice none 0 0) 0 [] rfl (World.ownsRow_nil _ _ _ _) (some ⟨b, off + 1, none⟩) n (cap - 1) (zs.map (Value.int .i32)) rfl (by simp [HL.out]) (reads_src (HR.out.keep HB.out)) (ints_oneCell _ _) (by simp only [maxLen]; omega) (by omega) (Nat.le_refl _) ?_; intro v1 w1 q1 g1; obtain ⟨e1, e2, e3, e4⟩ := appended1 HX.out o1 HS.out q1 g1; obtain ⟨a1, cp1, rfl⟩ := ownShape e4; have HO1 := Lib.hid e4; have HX1 := Lib.hid e2; have HB1 := Lib.hid e3; have HC1 := Lib.hid (((HB.out.trans (e3.mono HB.out.size)).cell (p := ⟨b, off, none⟩) HCY.out.1).trans HCY.out.2); clear q1 g1 e1 e2 e3 e4 o0 o1))
  have cy := HC1.out
  go_still_tail 6, (by kernel_rfl)
  clear cy
  have HO2 := Lib.hid HO1.out.drew
  have HX2 := Lib.hid (show RBox w1.drew (w.heap.size + 1) 0 0 from HX1.out)
  have HB2 := Lib.hid HB1.out.drew
  clear HO1 HX1 HB1 HC1
  change wpList _ _ _ _ _ w1.drew
  generalize w1.drew = w2 at *
  have c0 := HX2.out.c0
  have c1 := HX2.out.c1
  have f := HX2.out.f
  have r := HX2.out.set2 2 y
  have r0 := r.c0
  have r1 := r.c1
  clear r
  go_wp2
  exact bodyPost_ret (v := .tuple #[.slice a1 n cp1, .agg #[.int .u8 2, .int .i32 y]]) (by simp [results, Try.results29, go_sem, r0, r1]) rfl (told_new (ys := zs) (by simpa [HL.out] using HO2.out) HS.out HB.out HB2.out)


set_option maxHeartbeats 3200000 in
theorem heapPop1 (most x y : Int) (hr : Reads .i32 w ao (n + 1) (y :: zs)) (hc : n + 1 ≤ cap) (h1 : cap = 1) (hn : n ≤ 1000) :
    Calls Try.prog 29 #[.int .i64 most, .slice ao (n + 1) cap, .agg #[.int .u8 2, .int .i32 x]] w (RefTold w ao (y :: zs) zs 2 y) := by
  obtain ⟨i0, hi, hz0, hz1, hz2⟩ := info_parts infoI32
  obtain ⟨b, off, rfl⟩ := reads_some hr
  have HL := Lib.hid (show zs.length = 0 by have := hr.1; simp at this; omega)
  have HR := Lib.hid (show Reads .i32 w (some ⟨b, off, none⟩) 0 zs from ⟨HL.out, fun h => absurd h (Nat.lt_irrefl _)⟩)
  obtain ⟨b', off', e, bl, hcs⟩ := hr.2 (by omega)
  simp only [Option.some.injEq, Addr.mk.injEq, and_true] at e
  obtain ⟨rfl, rfl⟩ := e
  have cy : w.cell? ⟨b, off, none⟩ = some (.int .i32 y) := hcs 0 (by omega)
  clear hr hcs
  obtain rfl : n = 0 := by omega
  subst h1
  clear hn hc
  go_enter Try.func29, Try.ntmps29
  go_upto_region 1 with (fail)
  generalize hW : (w.alloc (.cells #[.int .u8 2, .int .i32 x] 36)).alloc (.cells #[.int .u8 0, .int .i32 0] 32) = W
  obtain ⟨o0, o1, b0, hb, hs⟩ := begunRef w _ _ W hW
  have c0 := b0.c0
  have c1 := b0.c1
  have f := b0.f
  have HB := Lib.hid hb
  have HS := Lib.hid hs
  have HX := Lib.hid b0
  clear hW hb hs b0
  clear c0 c1 f
  have HCY := Lib.hid (And.intro bl cy)
  have M := refMost most W
  clear cy
  go_upto_region 17 with (first | (go_at_call 40; refine M.mono ?_; rintro e w' ⟨rfl, rfl⟩) | (at_builtin; refine wpList_append_src _ rfl (.tmp 75) (.tmp 77) 22 rfl W.heap.size 21 i0 _ 1 4 Try.underlying22 hi hz0 hz1 hz2 rfl (by decide) (.slice none 0 0) 0 [] rfl (World.ownsRow_nil _ _ _ _) (some ⟨b, off, none⟩) 0 0 (zs.map (Value.int .i32)) rfl (by simp [HL.out]) (reads_src (HR.out.keep HB.out)) (ints_oneCell _ _) (by simp only [maxLen]; omega) (by omega) (Nat.le_refl _) ?_; intro v1 w1 q1 g1; obtain ⟨e1, e2, e3, e4⟩ := appended1 HX.out o1 HS.out q1 g1; obtain ⟨a1, cp1, rfl⟩ := ownShape e4; have HO1 := Lib.hid e4; have HX1 := Lib.hid e2; have HB1 := Lib.hid e3; have HC1 := Lib.hid (((HB.out.trans (e3.mono HB.out.size)).cell (p := ⟨b, off, none⟩) HCY.out.1).trans HCY.out.2); clear q1 g1 e1 e2 e3 e4 o0 o1))
  have cy := HC1.out
  go_still_tail 6, (by kernel_rfl)
  clear cy
  have HO2 := Lib.hid HO1.out.drew
  have HX2 := Lib.hid (show RBox w1.drew (w.heap.size + 1) 0 0 from HX1.out)
  have HB2 := Lib.hid HB1.out.drew
  clear HO1 HX1 HB1 HC1
  change wpList _ _ _ _ _ w1.drew
  generalize w1.drew = w2 at *
  have c0 := HX2.out.c0
  have c1 := HX2.out.c1
  have f := HX2.out.f
  have r := HX2.out.set2 2 y
  have r0 := r.c0
  have r1 := r.c1
  clear r
  go_wp2
  exact bodyPost_ret (v := .tuple #[.slice a1 0 cp1, .agg #[.int .u8 2, .int .i32 y]]) (by simp [results, Try.results29, go_sem, r0, r1]) rfl (told_new (ys := zs) (by simpa [HL.out] using HO2.out) HS.out HB.out HB2.out)


/-- A list's front, and its rest. -/
theorem reads_take {k : Nat} (h : Reads .i32 w ao n zs) (hk : k ≤ n) : Reads .i32 w ao k (zs.take k) := by
  refine ⟨by rw [List.length_take, h.1, Nat.min_eq_left hk], fun hp => ?_⟩
  obtain ⟨b, off, e, bl, hc⟩ := h.2 (by omega)
  refine ⟨b, off, e, bl, fun i hi => ?_⟩
  rw [hc i (by omega)]
  simp [List.getD, hi]
theorem reads_drop {b off k : Nat} (h : Reads .i32 w (some ⟨b, off, none⟩) n zs) (hk : k < n) : Reads .i32 w (some ⟨b, off + k, none⟩) (n - k) (zs.drop k) := by
  refine ⟨by rw [List.length_drop, h.1], fun hp => ?_⟩
  obtain ⟨b', off', e, bl, hc⟩ := h.2 (by omega)
  simp only [Option.some.injEq, Addr.mk.injEq, and_true] at e
  obtain ⟨rfl, rfl⟩ := e
  refine ⟨b, off + k, rfl, bl, fun i hi => ?_⟩
  rw [Nat.add_assoc, hc (k + i) (by omega)]
  simp [List.getD]
theorem reads_none (w : World) (A : Option Addr) : Reads .i32 w A 0 [] := ⟨rfl, fun h => by omega⟩

/-- Rows of one's own that grow behind memory W. -/
def Grow (W w1 : World) (v : Value) (m : Nat) (xs : List Value) : Prop := w1.ownsRow W.heap.size 21 1 v m xs ∧ Below W.heap.size W w1
theorem Grow.one {wr : World} {v : Value} {m : Nat} {xs : List Value} (hb : Below W.heap.size W wr) (q : w1.ownsRow W.heap.size 21 1 v (0 + m) ([] ++ xs)) (g : wr.grownBy w1 (Value.ownBlock (.slice none 0 0))) : Grow W w1 v m xs := by
  rw [Nat.zero_add, List.nil_append] at q
  exact ⟨q, hb.grown g hb.size (fun k e => by cases e)⟩
theorem Grow.more {w2 : World} {v v2 : Value} {m m2 : Nat} {xs ys : List Value} (h : Grow W w1 v m xs) (q : w2.ownsRow W.heap.size 21 1 v2 m2 ys) (g : w1.grownBy w2 v.ownBlock) : Grow W w2 v2 m2 ys :=
  ⟨q, h.2.grown g h.2.size (fun k e => (h.1.lt k e).1)⟩
theorem Grow.box {w2 : World} {v v2 : Value} {m m2 : Nat} {xs ys : List Value} {o : Obj} (h : Grow W w1 v m xs) (q : w2.ownsRow W.heap.size 21 1 v2 m2 ys) (g : (w1.alloc o).grownBy w2 v.ownBlock) : Grow W w2 v2 m2 ys :=
  ⟨q, (h.2.alloc h.2.size o).grown g (Nat.le_trans h.2.size (by simp)) (fun k e => (h.1.lt k e).1)⟩

theorem mid_map (k : Nat) (x : Int) : ((zs.take k).map (Value.int .i32) ++ [.int .i32 x]) ++ (zs.drop k).map (Value.int .i32) = (zs.take k ++ x :: zs.drop k).map (Value.int .i32) := by simp
theorem mid_len {k : Nat} (h : zs.length = n) (hk : k ≤ n) (x : Int) : (zs.take k ++ x :: zs.drop k).length = n + 1 := by simp; omega

set_option maxRecDepth 100000 in
set_option maxHeartbeats 8000000 in
theorem heapAdd (most x : Int) (hr : Reads .i32 w ao n zs) (hcap : n ≤ cap) (hn : n ≤ 1000) (hf : (n : Int) < mostOf most) :
    Calls Try.prog 29 #[.int .i64 most, .slice ao n cap, .agg #[.int .u8 1, .int .i32 x]] w (RefTold w ao zs (zs.take (fgt x zs) ++ x :: zs.drop (fgt x zs)) 1 0) := by
  obtain ⟨i0, hi, hz0, hz1, hz2⟩ := info_parts infoI32
  have HR := Lib.hid hr
  have HL := Lib.hid hr.1
  clear hr
  go_enter Try.func29, Try.ntmps29
  go_upto_region 1 with (fail)
  generalize hW : (w.alloc (.cells #[.int .u8 1, .int .i32 x] 36)).alloc (.cells #[.int .u8 0, .int .i32 0] 32) = W
  obtain ⟨o0, o1, b0, hb, hs⟩ := begunRef w _ _ W hW
  have HB := Lib.hid hb
  have HS := Lib.hid hs
  have HX := Lib.hid b0
  have HO := Lib.hid o1
  clear hW hb hs b0
  have M := refMost most W
  go_upto_region 4 with (go_at_call 40; refine M.mono ?_; rintro e w' ⟨rfl, rfl⟩)
  clear M o0 o1
  go_wp2_with (fail)
  go_loopw [8] (fun i wr => ∃ k : Nat, k ≤ n ∧ i = .int .i64 k ∧ (∀ j, j < k → zs.getD j 0 ≤ x) ∧ Below W.heap.size W wr) (fun i _ => n - (intOf i).toNat)
  case atStart => exact ⟨0, Nat.zero_le _, rfl, fun j h => by omega, Below.refl _ _⟩
  case round =>
    obtain ⟨k, hk, rfl, hs, hbw⟩ := hrel
    have HN := Lib.hid hs
    have HE := Lib.hid hbw
    have k0 : (0 : Int) ≤ (k : Int) := by omega
    have kc : (k : Int) ≤ cap := by omega
    have kn : (k : Int) ≤ n := by omega
    have nc : (n : Int) ≤ cap := by omega
    have o1 := (hbw.cell (p := ⟨w.heap.size, 1, none⟩) (by have := HS.out; simp; omega)).trans HO.out
    clear hs hbw
    by_cases hlt : k < n
    · obtain ⟨b, off, rfl, hbl, hc⟩ := HR.out.2 (by omega)
      have c := (((HB.out.trans (HE.out.mono HB.out.size)).cell (p := ⟨b, off + k, none⟩) hbl)).trans (hc k hlt)
      clear hc
      have i0' : (k : Int) < n := by omega
      by_cases hgo : zs.getD k 0 ≤ x
      · have HN' := Lib.hid (show ∀ j, j < k + 1 → zs.getD j 0 ≤ x from fun j hj => by
          by_cases e : j = k
          · subst e; exact hgo
          · exact HN.out j (by omega))
        generalize zs.getD k 0 = y at *
        go_wp2
        go_quiet (fail)
        go_wp2
        go_roundw
        case rel => exact ⟨k + 1, by omega, by go_num, HN'.out, below_drewN HE.out _⟩
        case measure => simp [intOf]; omega
      · have HF := Lib.hid (show fgt x zs = k from fgt_is x zs k (by rw [HL.out]; omega) HN.out (.inr (by omega)))
        generalize zs.getD k 0 = y at *
        have hgo' : x < y := by omega
        clear hgo
        go_upto_region 5 with (fail)
        go_quiet (fail)
        have HEd := Lib.hid (below_drewN HE.out nq)
        clear c HE o1
        generalize wr.drewN nq = wd at *
        go_wp2_with (first
          | (at_builtin; refine wpList_append_src _ rfl (.tmp 43) (.tmp 46) 22 rfl W.heap.size 21 i0 _ 1 4 Try.underlying22 hi hz0 hz1 hz2 rfl (by decide) (.slice none 0 0) 0 [] rfl (World.ownsRow_nil _ _ _ _) _ _ _ ((zs.take k).map (Value.int .i32)) rfl (by simp [HL.out] <;> omega) (reads_src (reads_take (HR.out.keep (HB.out.trans (HEd.out.mono HB.out.size))) (by omega))) (ints_oneCell _ _) (by simp only [maxLen]; omega) (by omega) HEd.out.size ?_; intro v1 w1 q1 g1; have HG1 := Lib.hid (Grow.one HEd.out q1 g1); obtain ⟨a1, cp1, rfl⟩ := ownShape HG1.out.1; have o1 := (HG1.out.2.cell (p := ⟨w.heap.size, 1, none⟩) (by have := HS.out; simp; omega)).trans HO.out; clear q1 g1)
          | (at_builtin; refine wpList_append_own _ rfl (.tmp 48) (.tmp 51) 22 rfl W.heap.size 21 i0 _ 1 4 Try.underlying22 hi hz0 hz1 hz2 rfl (by decide) _ k _ rfl (HG1.out.1.alloc _) ⟨w1.heap.size, 0, none⟩ 1 1 [.int .i32 x] rfl rfl (by intro j u hu; cases j <;> simp at hu; subst hu; go_simp) (by intro u hu; simp at hu; subst hu; rfl) (by simp only [maxLen]; omega) (by omega) (Nat.le_trans HG1.out.2.size (by simp)) ?_; intro v2 w2 q2 g2 _; have HG2 := Lib.hid (HG1.out.box q2 g2); obtain ⟨a2, cp2, rfl⟩ := ownShape q2; clear q2 g2 HG1 o1)
          | (at_builtin; refine wpList_append_src _ rfl (.tmp 53) (.tmp 56) 22 rfl W.heap.size 21 i0 _ 1 4 Try.underlying22 hi hz0 hz1 hz2 rfl (by decide) _ (k + 1) _ rfl HG2.out.1 _ _ _ ((zs.drop k).map (Value.int .i32)) rfl (by simp [HL.out]) (reads_src (reads_drop (HR.out.keep (HB.out.trans (HG2.out.2.mono HB.out.size))) hlt)) (ints_oneCell _ _) (by simp only [maxLen]; omega) (by omega) HG2.out.2.size ?_; intro v3 w3 q3 g3; have HG3 := Lib.hid (HG2.out.more q3 g3); obtain ⟨a3, cp3, rfl⟩ := ownShape q3; have b3 := (show RBox w3 (w.heap.size + 1) 0 0 from (HG3.out.2.block _ (by have := HS.out; omega)).trans HX.out); have c0 := b3.c0; have c1 := b3.c1; have f := b3.f; have HX3 := Lib.hid b3; clear q3 g3 HG2 b3))
        have r := HX3.out.set2 1 0
        have r0 := r.c0
        have r1 := r.c1
        have e := HG3.out.1
        rw [mid_map, show k + 1 + (n - k) = n + 1 by omega] at e
        have ml := mid_len HL.out hk x
        refine bodyPost_ret (v := .tuple #[.slice a3 (k + 1 + (n - k)) cp3, .agg #[.int .u8 1, .int .i32 0]]) (by simp [results, Try.results29, go_sem, r0, r1]) rfl ?_
        rw [HF.out, show k + 1 + (n - k) = n + 1 by omega]
        exact told_new (ys := zs.take k ++ x :: zs.drop k) (by rw [ml]; exact e) HS.out HB.out HG3.out.2
    · obtain rfl : k = n := by omega
      have HF := Lib.hid (show fgt x zs = k from fgt_is x zs k (by rw [HL.out]; exact Nat.le_refl _) HN.out (.inl HL.out.symm))
      go_upto_region 5 with (fail)
      go_quiet (fail)
      have HEd := Lib.hid (below_drewN HE.out nq)
      clear HE o1
      generalize wr.drewN nq = wd at *
      go_wp2_with (first
        | (at_builtin; refine wpList_append_src _ rfl (.tmp 43) (.tmp 46) 22 rfl W.heap.size 21 i0 _ 1 4 Try.underlying22 hi hz0 hz1 hz2 rfl (by decide) (.slice none 0 0) 0 [] rfl (World.ownsRow_nil _ _ _ _) _ _ _ ((zs.take k).map (Value.int .i32)) rfl (by simp [HL.out] <;> omega) (reads_src (reads_take (HR.out.keep (HB.out.trans (HEd.out.mono HB.out.size))) (by omega))) (ints_oneCell _ _) (by simp only [maxLen]; omega) (by omega) HEd.out.size ?_; intro v1 w1 q1 g1; have HG1 := Lib.hid (Grow.one HEd.out q1 g1); obtain ⟨a1, cp1, rfl⟩ := ownShape HG1.out.1; have o1 := (HG1.out.2.cell (p := ⟨w.heap.size, 1, none⟩) (by have := HS.out; simp; omega)).trans HO.out; clear q1 g1)
        | (at_builtin; refine wpList_append_own _ rfl (.tmp 48) (.tmp 51) 22 rfl W.heap.size 21 i0 _ 1 4 Try.underlying22 hi hz0 hz1 hz2 rfl (by decide) _ k _ rfl (HG1.out.1.alloc _) ⟨w1.heap.size, 0, none⟩ 1 1 [.int .i32 x] rfl rfl (by intro j u hu; cases j <;> simp at hu; subst hu; go_simp) (by intro u hu; simp at hu; subst hu; rfl) (by simp only [maxLen]; omega) (by omega) (Nat.le_trans HG1.out.2.size (by simp)) ?_; intro v2 w2 q2 g2 _; have HG2 := Lib.hid (HG1.out.box q2 g2); obtain ⟨a2, cp2, rfl⟩ := ownShape q2; clear q2 g2 HG1 o1)
        | (at_builtin; refine wpList_append_src _ rfl (.tmp 53) (.tmp 56) 22 rfl W.heap.size 21 i0 _ 1 4 Try.underlying22 hi hz0 hz1 hz2 rfl (by decide) _ (k + 1) _ rfl HG2.out.1 _ _ _ ((zs.drop k).map (Value.int .i32)) rfl (by simp [HL.out]) (fun h => absurd h (by omega)) (ints_oneCell _ _) (by simp only [maxLen]; omega) (by omega) HG2.out.2.size ?_; intro v3 w3 q3 g3; have HG3 := Lib.hid (HG2.out.more q3 g3); obtain ⟨a3, cp3, rfl⟩ := ownShape q3; have b3 := (show RBox w3 (w.heap.size + 1) 0 0 from (HG3.out.2.block _ (by have := HS.out; omega)).trans HX.out); have c0 := b3.c0; have c1 := b3.c1; have f := b3.f; have HX3 := Lib.hid b3; clear q3 g3 HG2 b3))
      all_goals
        have r := HX3.out.set2 1 0
        have r0 := r.c0
        have r1 := r.c1
        have e := HG3.out.1
        rw [mid_map, show k + 1 + 0 = k + 1 by omega] at e
        have ml := mid_len HL.out (Nat.le_refl _) x
        refine bodyPost_ret (v := .tuple #[.slice a3 (k + 1 + 0) cp3, .agg #[.int .u8 1, .int .i32 0]]) (by simp [results, Try.results29, go_sem, r0, r1]) rfl ?_
        rw [HF.out, show k + 1 + 0 = k + 1 by omega]
        exact told_new (ys := zs.take k ++ x :: zs.drop k) (by rw [ml]; exact e) HS.out HB.out HG3.out.2
end

end Go.Proofs.Ytejnadokjnfagaa
