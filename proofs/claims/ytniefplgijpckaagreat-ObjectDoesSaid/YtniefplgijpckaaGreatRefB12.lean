/-
  What reaperref08.heap tells: as hpL, hpC and hpV say. Conditions: a list of at most a thousand numbers. What reaperref08.Apply tells: as objL, objC and objV say. Conditions: a list of at most a thousand numbers; a kind of 0 to 255.
-/
import Derived.Test.YtniefplgijpckaaGreatRefA12
namespace Go.Proofs.YtniefplgijpckaaGreat
open Go.RowKit

section
variable {w W w1 : World} {ao : Option Addr} {n cap : Nat} {zs : List Int}

set_option maxRecDepth 100000 in
set_option maxHeartbeats 3200000 in
theorem heapFull (most x : Int) (hr : Reads .i32 w ao n zs) (hc : n ≤ cap) (_ : n ≤ 1000) (hf : mostOf most ≤ n) :
    Calls Tryz.prog 48 #[.int .i64 most, .slice ao n cap, .agg #[.int .u8 1, .int .i32 x]] w (RefTold w ao zs zs 3 0) := by
  have HR := Lib.hid hr
  clear hr
  go_enter Tryz.func48, Tryz.ntmps48
  go_upto_region 1 with (fail)
  generalize hW : (w.alloc (.cells #[.int .u8 1, .int .i32 x] 49)).alloc (.cells #[.int .u8 0, .int .i32 0] 53) = W
  obtain ⟨o0, o1, b0, hb, hs⟩ := begunRef w _ _ W hW
  have c0 := b0.c0
  have c1 := b0.c1
  have f := b0.f
  have HB := Lib.hid hb
  have HS := Lib.hid hs
  have HX := Lib.hid b0
  clear hW hb hs b0
  have r := HX.out.set2 3 0
  have r0 := r.c0
  have r1 := r.c1
  clear r
  have M := refMost most W
  go_wp2_with (go_at_call 49; refine M.mono ?_; rintro e w' ⟨rfl, rfl⟩)
  exact bodyPost_ret (v := .tuple #[.slice ao n cap, .agg #[.int .u8 3, .int .i32 0]]) (by simp [results, Tryz.results48, go_sem, r0, r1]) rfl (told_old HR.out hc HB.out)


set_option maxRecDepth 100000 in
set_option maxHeartbeats 3200000 in
theorem heapNone (most x : Int) (hr : Reads .i32 w ao n zs) (hc : n ≤ cap) (h0 : n = 0) :
    Calls Tryz.prog 48 #[.int .i64 most, .slice ao n cap, .agg #[.int .u8 2, .int .i32 x]] w (RefTold w ao zs zs 4 0) := by
  have HR := Lib.hid hr
  clear hr
  have h1 : ¬ 0 < n := by omega
  subst h0
  clear h1
  go_enter Tryz.func48, Tryz.ntmps48
  go_upto_region 1 with (fail)
  generalize hW : (w.alloc (.cells #[.int .u8 2, .int .i32 x] 49)).alloc (.cells #[.int .u8 0, .int .i32 0] 53) = W
  obtain ⟨o0, o1, b0, hb, hs⟩ := begunRef w _ _ W hW
  have c0 := b0.c0
  have c1 := b0.c1
  have f := b0.f
  have HB := Lib.hid hb
  have HS := Lib.hid hs
  have HX := Lib.hid b0
  clear hW hb hs b0
  have r := HX.out.set2 4 0
  have r0 := r.c0
  have r1 := r.c1
  clear r
  have M := refMost most W
  go_wp2_with (go_at_call 49; refine M.mono ?_; rintro e w' ⟨rfl, rfl⟩)
  exact bodyPost_ret (v := .tuple #[.slice ao 0 cap, .agg #[.int .u8 4, .int .i32 0]]) (by simp [results, Tryz.results48, go_sem, r0, r1]) rfl (told_old HR.out hc HB.out)


set_option maxRecDepth 100000 in
set_option maxHeartbeats 3200000 in
theorem heapBad (most x : Int) (hr : Reads .i32 w ao n zs) (hc : n ≤ cap) (_ : n ≤ 1000) (k : Int) (k0 : k ≠ 1) (k1 : k ≠ 2) :
    Calls Tryz.prog 48 #[.int .i64 most, .slice ao n cap, .agg #[.int .u8 k, .int .i32 x]] w (RefTold w ao zs zs 5 0) := by
  have HR := Lib.hid hr
  clear hr
  have d1 := beq_eq_false_iff_ne.2 k0
  have d2 := beq_eq_false_iff_ne.2 k1
  clear k0 k1
  go_enter Tryz.func48, Tryz.ntmps48
  go_upto_region 1 with (fail)
  generalize hW : (w.alloc (.cells #[.int .u8 k, .int .i32 x] 49)).alloc (.cells #[.int .u8 0, .int .i32 0] 53) = W
  obtain ⟨o0, o1, b0, hb, hs⟩ := begunRef w _ _ W hW
  have c0 := b0.c0
  have c1 := b0.c1
  have f := b0.f
  have HB := Lib.hid hb
  have HS := Lib.hid hs
  have HX := Lib.hid b0
  clear hW hb hs b0
  have r := HX.out.set2 5 0
  have r0 := r.c0
  have r1 := r.c1
  clear r
  have M := refMost most W
  go_wp2_with (go_at_call 49; refine M.mono ?_; rintro e w' ⟨rfl, rfl⟩)
  exact bodyPost_ret (v := .tuple #[.slice ao n cap, .agg #[.int .u8 5, .int .i32 0]]) (by simp [results, Tryz.results48, go_sem, r0, r1]) rfl (told_old HR.out hc HB.out)


set_option maxRecDepth 100000 in
set_option maxHeartbeats 3200000 in
theorem heapPop (most x y : Int) (hr : Reads .i32 w ao (n + 1) (y :: zs)) (hc : n + 1 ≤ cap) (h1 : ¬ cap = 1) (hn : n ≤ 1000) :
    Calls Tryz.prog 48 #[.int .i64 most, .slice ao (n + 1) cap, .agg #[.int .u8 2, .int .i32 x]] w (RefTold w ao (y :: zs) zs 2 y) := by
  obtain ⟨i0, hi, hz0, hz1, hz2⟩ := info_parts infoI32
  obtain ⟨b, off, rfl⟩ := reads_some hr
  have HL := Lib.hid (show zs.length = n by have := hr.1; simpa using this)
  have HR := Lib.hid (reads_tail hr)
  obtain ⟨b', off', e, bl, hcs⟩ := hr.2 (by omega)
  simp only [Option.some.injEq, Addr.mk.injEq, and_true] at e
  obtain ⟨rfl, rfl⟩ := e
  have cy : w.cell? ⟨b, off, none⟩ = some (.int .i32 y) := hcs 0 (by omega)
  clear hr hcs
  have i1 : 1 ≤ cap := by omega
  have i2 : (1 : Int) ≤ cap := by omega
  go_enter Tryz.func48, Tryz.ntmps48
  go_upto_region 1 with (fail)
  generalize hW : (w.alloc (.cells #[.int .u8 2, .int .i32 x] 49)).alloc (.cells #[.int .u8 0, .int .i32 0] 53) = W
  obtain ⟨o0, o1, b0, hb, hs⟩ := begunRef w _ _ W hW
  have c0 := b0.c0
  have c1 := b0.c1
  have f := b0.f
  have HB := Lib.hid hb
  have HS := Lib.hid hs
  have HX := Lib.hid b0
  clear hW hb hs b0
  clear c0 c1 f
  have HCY := Lib.hid (And.intro bl cy)
  have M := refMost most W
  clear cy
  go_upto_region 17 with (first | (go_at_call 49; refine M.mono ?_; rintro e w' ⟨rfl, rfl⟩) | (at_builtin; refine wpList_append_src _ rfl (.tmp 75) (.tmp 77) 32 rfl W.heap.size 21 i0 _ 1 4 Tryz.underlying32 hi hz0 hz1 hz2 rfl (by decide) (.slice none 0 0) 0 [] rfl (World.ownsRow_nil _ _ _ _) (some ⟨b, off + 1, none⟩) n (cap - 1) (zs.map (Value.int .i32)) rfl (by simp [HL.out]) (reads_src (HR.out.keep HB.out)) (ints_oneCell _ _) (by simp only [maxLen]; omega) (by omega) (Nat.le_refl _) ?_; intro v1 w1 q1 g1; obtain ⟨e1, e2, e3, e4⟩ := appended1 HX.out o1 HS.out q1 g1; obtain ⟨a1, cp1, rfl⟩ := ownShape e4; have HO1 := Lib.hid e4; have HX1 := Lib.hid e2; have HB1 := Lib.hid e3; have HC1 := Lib.hid (((HB.out.trans (e3.mono HB.out.size)).cell (p := ⟨b, off, none⟩) HCY.out.1).trans HCY.out.2); clear q1 g1 e1 e2 e3 e4 o0 o1))
  have cy := HC1.out
  go_still_tail 6, (by kernel_rfl)
  clear cy
  have HO2 := Lib.hid HO1.out.drew
  have HX2 := Lib.hid (show RBox w1.drew (w.heap.size + 1) 0 0 from HX1.out)
  have HB2 := Lib.hid HB1.out.drew
  clear HO1 HX1 HB1 HC1
  change wpList _ _ _ _ _ w1.drew
  generalize w1.drew = w2 at *
  have c0 := HX2.out.c0
  have c1 := HX2.out.c1
  have f := HX2.out.f
  have r := HX2.out.set2 2 y
  have r0 := r.c0
  have r1 := r.c1
  clear r
  go_wp2
  exact bodyPost_ret (v := .tuple #[.slice a1 n cp1, .agg #[.int .u8 2, .int .i32 y]]) (by simp [results, Tryz.results48, go_sem, r0, r1]) rfl (told_new (ys := zs) (by simpa [HL.out] using HO2.out) HS.out HB.out HB2.out)


set_option maxRecDepth 100000 in
set_option maxHeartbeats 3200000 in
theorem heapPop1 (most x y : Int) (hr : Reads .i32 w ao (n + 1) (y :: zs)) (hc : n + 1 ≤ cap) (h1 : cap = 1) (hn : n ≤ 1000) :
    Calls Tryz.prog 48 #[.int .i64 most, .slice ao (n + 1) cap, .agg #[.int .u8 2, .int .i32 x]] w (RefTold w ao (y :: zs) zs 2 y) := by
  obtain ⟨i0, hi, hz0, hz1, hz2⟩ := info_parts infoI32
  obtain ⟨b, off, rfl⟩ := reads_some hr
  have HL := Lib.hid (show zs.length = 0 by have := hr.1; simp at this; omega)
  have HR := Lib.hid (show Reads .i32 w (some ⟨b, off, none⟩) 0 zs from ⟨HL.out, fun h => absurd h (Nat.lt_irrefl _)⟩)
  obtain ⟨b', off', e, bl, hcs⟩ := hr.2 (by omega)
  simp only [Option.some.injEq, Addr.mk.injEq, and_true] at e
  obtain ⟨rfl, rfl⟩ := e
  have cy : w.cell? ⟨b, off, none⟩ = some (.int .i32 y) := hcs 0 (by omega)
  clear hr hcs
  obtain rfl : n = 0 := by omega
  subst h1
  clear hn hc
  go_enter Tryz.func48, Tryz.ntmps48
  go_upto_region 1 with (fail)
  generalize hW : (w.alloc (.cells #[.int .u8 2, .int .i32 x] 49)).alloc (.cells #[.int .u8 0, .int .i32 0] 53) = W
  obtain ⟨o0, o1, b0, hb, hs⟩ := begunRef w _ _ W hW
  have c0 := b0.c0
  have c1 := b0.c1
  have f := b0.f
  have HB := Lib.hid hb
  have HS := Lib.hid hs
  have HX := Lib.hid b0
  clear hW hb hs b0
  clear c0 c1 f
  have HCY := Lib.hid (And.intro bl cy)
  have M := refMost most W
  clear cy
  go_upto_region 17 with (first | (go_at_call 49; refine M.mono ?_; rintro e w' ⟨rfl, rfl⟩) | (at_builtin; refine wpList_append_src _ rfl (.tmp 75) (.tmp 77) 32 rfl W.heap.size 21 i0 _ 1 4 Tryz.underlying32 hi hz0 hz1 hz2 rfl (by decide) (.slice none 0 0) 0 [] rfl (World.ownsRow_nil _ _ _ _) (some ⟨b, off, none⟩) 0 0 (zs.map (Value.int .i32)) rfl (by simp [HL.out]) (reads_src (HR.out.keep HB.out)) (ints_oneCell _ _) (by simp only [maxLen]; omega) (by omega) (Nat.le_refl _) ?_; intro v1 w1 q1 g1; obtain ⟨e1, e2, e3, e4⟩ := appended1 HX.out o1 HS.out q1 g1; obtain ⟨a1, cp1, rfl⟩ := ownShape e4; have HO1 := Lib.hid e4; have HX1 := Lib.hid e2; have HB1 := Lib.hid e3; have HC1 := Lib.hid (((HB.out.trans (e3.mono HB.out.size)).cell (p := ⟨b, off, none⟩) HCY.out.1).trans HCY.out.2); clear q1 g1 e1 e2 e3 e4 o0 o1))
  have cy := HC1.out
  go_still_tail 6, (by kernel_rfl)
  clear cy
  have HO2 := Lib.hid HO1.out.drew
  have HX2 := Lib.hid (show RBox w1.drew (w.heap.size + 1) 0 0 from HX1.out)
  have HB2 := Lib.hid HB1.out.drew
  clear HO1 HX1 HB1 HC1
  change wpList _ _ _ _ _ w1.drew
  generalize w1.drew = w2 at *
  have c0 := HX2.out.c0
  have c1 := HX2.out.c1
  have f := HX2.out.f
  have r := HX2.out.set2 2 y
  have r0 := r.c0
  have r1 := r.c1
  clear r
  go_wp2
  exact bodyPost_ret (v := .tuple #[.slice a1 0 cp1, .agg #[.int .u8 2, .int .i32 y]]) (by simp [results, Tryz.results48, go_sem, r0, r1]) rfl (told_new (ys := zs) (by simpa [HL.out] using HO2.out) HS.out HB.out HB2.out)


/-- A list's front, and its rest. -/
theorem reads_take {k : Nat} (h : Reads .i32 w ao n zs) (hk : k ≤ n) : Reads .i32 w ao k (zs.take k) := by
  refine ⟨by rw [List.length_take, h.1, Nat.min_eq_left hk], fun hp => ?_⟩
  obtain ⟨b, off, e, bl, hc⟩ := h.2 (by omega)
  refine ⟨b, off, e, bl, fun i hi => ?_⟩
  rw [hc i (by omega)]
  simp [List.getD, hi]
theorem reads_drop {b off k : Nat} (h : Reads .i32 w (some ⟨b, off, none⟩) n zs) (hk : k < n) : Reads .i32 w (some ⟨b, off + k, none⟩) (n - k) (zs.drop k) := by
  refine ⟨by rw [List.length_drop, h.1], fun hp => ?_⟩
  obtain ⟨b', off', e, bl, hc⟩ := h.2 (by omega)
  simp only [Option.some.injEq, Addr.mk.injEq, and_true] at e
  obtain ⟨rfl, rfl⟩ := e
  refine ⟨b, off + k, rfl, bl, fun i hi => ?_⟩
  rw [Nat.add_assoc, hc (k + i) (by omega)]
  simp [List.getD]
theorem reads_none (w : World) (A : Option Addr) : Reads .i32 w A 0 [] := ⟨rfl, fun h => by omega⟩

/-- Rows of one's own that grow behind memory W. -/
def Grow (W w1 : World) (v : Value) (m : Nat) (xs : List Value) : Prop := w1.ownsRow W.heap.size 21 1 v m xs ∧ Below W.heap.size W w1
theorem Grow.one {wr : World} {v : Value} {m : Nat} {xs : List Value} (hb : Below W.heap.size W wr) (q : w1.ownsRow W.heap.size 21 1 v (0 + m) ([] ++ xs)) (g : wr.grownBy w1 (Value.ownBlock (.slice none 0 0))) : Grow W w1 v m xs := by
  rw [Nat.zero_add, List.nil_append] at q
  exact ⟨q, hb.grown g hb.size (fun k e => by cases e)⟩
theorem Grow.more {w2 : World} {v v2 : Value} {m m2 : Nat} {xs ys : List Value} (h : Grow W w1 v m xs) (q : w2.ownsRow W.heap.size 21 1 v2 m2 ys) (g : w1.grownBy w2 v.ownBlock) : Grow W w2 v2 m2 ys :=
  ⟨q, h.2.grown g h.2.size (fun k e => (h.1.lt k e).1)⟩
theorem Grow.box {w2 : World} {v v2 : Value} {m m2 : Nat} {xs ys : List Value} {o : Obj} (h : Grow W w1 v m xs) (q : w2.ownsRow W.heap.size 21 1 v2 m2 ys) (g : (w1.alloc o).grownBy w2 v.ownBlock) : Grow W w2 v2 m2 ys :=
  ⟨q, (h.2.alloc h.2.size o).grown g (Nat.le_trans h.2.size (by simp)) (fun k e => (h.1.lt k e).1)⟩

theorem mid_map (k : Nat) (x : Int) : ((zs.take k).map (Value.int .i32) ++ [.int .i32 x]) ++ (zs.drop k).map (Value.int .i32) = (zs.take k ++ x :: zs.drop k).map (Value.int .i32) := by simp
theorem mid_len {k : Nat} (h : zs.length = n) (hk : k ≤ n) (x : Int) : (zs.take k ++ x :: zs.drop k).length = n + 1 := by simp; omega

set_option maxRecDepth 100000 in
set_option maxHeartbeats 8000000 in
theorem heapAdd (most x : Int) (hr : Reads .i32 w ao n zs) (hcap : n ≤ cap) (hn : n ≤ 1000) (hf : (n : Int) < mostOf most) :
    Calls Tryz.prog 48 #[.int .i64 most, .slice ao n cap, .agg #[.int .u8 1, .int .i32 x]] w (RefTold w ao zs (zs.take (fgt x zs) ++ x :: zs.drop (fgt x zs)) 1 0) := by
  obtain ⟨i0, hi, hz0, hz1, hz2⟩ := info_parts infoI32
  have HR := Lib.hid hr
  have HL := Lib.hid hr.1
  clear hr
  go_enter Tryz.func48, Tryz.ntmps48
  go_upto_region 1 with (fail)
  generalize hW : (w.alloc (.cells #[.int .u8 1, .int .i32 x] 49)).alloc (.cells #[.int .u8 0, .int .i32 0] 53) = W
  obtain ⟨o0, o1, b0, hb, hs⟩ := begunRef w _ _ W hW
  have HB := Lib.hid hb
  have HS := Lib.hid hs
  have HX := Lib.hid b0
  have HO := Lib.hid o1
  clear hW hb hs b0
  have M := refMost most W
  go_upto_region 4 with (go_at_call 49; refine M.mono ?_; rintro e w' ⟨rfl, rfl⟩)
  clear M o0 o1
  go_wp2_with (fail)
  go_loopw [8] (fun i wr => ∃ k : Nat, k ≤ n ∧ i = .int .i64 k ∧ (∀ j, j < k → zs.getD j 0 ≤ x) ∧ Below W.heap.size W wr) (fun i _ => n - (intOf i).toNat)
  case atStart => exact ⟨0, Nat.zero_le _, rfl, fun j h => by omega, Below.refl _ _⟩
  case round =>
    obtain ⟨k, hk, rfl, hs, hbw⟩ := hrel
    have HN := Lib.hid hs
    have HE := Lib.hid hbw
    have k0 : (0 : Int) ≤ (k : Int) := by omega
    have kc : (k : Int) ≤ cap := by omega
    have kn : (k : Int) ≤ n := by omega
    have nc : (n : Int) ≤ cap := by omega
    have o1 := (hbw.cell (p := ⟨w.heap.size, 1, none⟩) (by have := HS.out; simp; omega)).trans HO.out
    clear hs hbw
    by_cases hlt : k < n
    · obtain ⟨b, off, rfl, hbl, hc⟩ := HR.out.2 (by omega)
      have c := (((HB.out.trans (HE.out.mono HB.out.size)).cell (p := ⟨b, off + k, none⟩) hbl)).trans (hc k hlt)
      clear hc
      have i0' : (k : Int) < n := by omega
      by_cases hgo : zs.getD k 0 ≤ x
      · have HN' := Lib.hid (show ∀ j, j < k + 1 → zs.getD j 0 ≤ x from fun j hj => by
          by_cases e : j = k
          · subst e; exact hgo
          · exact HN.out j (by omega))
        generalize zs.getD k 0 = y at *
        go_wp2
        go_quiet (fail)
        go_wp2
        go_roundw
        case rel => exact ⟨k + 1, by omega, by go_num, HN'.out, below_drewN HE.out _⟩
        case measure => simp [intOf]; omega
      · have HF := Lib.hid (show fgt x zs = k from fgt_is x zs k (by rw [HL.out]; omega) HN.out (.inr (by omega)))
        generalize zs.getD k 0 = y at *
        have hgo' : x < y := by omega
        clear hgo
        go_upto_region 5 with (fail)
        go_quiet (fail)
        have HEd := Lib.hid (below_drewN HE.out nq)
        clear c HE o1
        generalize wr.drewN nq = wd at *
        go_wp2_with (first
          | (at_builtin; refine wpList_append_src _ rfl (.tmp 43) (.tmp 46) 32 rfl W.heap.size 21 i0 _ 1 4 Tryz.underlying32 hi hz0 hz1 hz2 rfl (by decide) (.slice none 0 0) 0 [] rfl (World.ownsRow_nil _ _ _ _) _ _ _ ((zs.take k).map (Value.int .i32)) rfl (by simp [HL.out] <;> omega) (reads_src (reads_take (HR.out.keep (HB.out.trans (HEd.out.mono HB.out.size))) (by omega))) (ints_oneCell _ _) (by simp only [maxLen]; omega) (by omega) HEd.out.size ?_; intro v1 w1 q1 g1; have HG1 := Lib.hid (Grow.one HEd.out q1 g1); obtain ⟨a1, cp1, rfl⟩ := ownShape HG1.out.1; have o1 := (HG1.out.2.cell (p := ⟨w.heap.size, 1, none⟩) (by have := HS.out; simp; omega)).trans HO.out; clear q1 g1)
          | (at_builtin; refine wpList_append_own _ rfl (.tmp 48) (.tmp 51) 32 rfl W.heap.size 21 i0 _ 1 4 Tryz.underlying32 hi hz0 hz1 hz2 rfl (by decide) _ k _ rfl (HG1.out.1.alloc _) ⟨w1.heap.size, 0, none⟩ 1 1 [.int .i32 x] rfl rfl (by intro j u hu; cases j <;> simp at hu; subst hu; go_simp) (by intro u hu; simp at hu; subst hu; rfl) (by simp only [maxLen]; omega) (by omega) (Nat.le_trans HG1.out.2.size (by simp)) ?_; intro v2 w2 q2 g2 _; have HG2 := Lib.hid (HG1.out.box q2 g2); obtain ⟨a2, cp2, rfl⟩ := ownShape q2; clear q2 g2 HG1 o1)
          | (at_builtin; refine wpList_append_src _ rfl (.tmp 53) (.tmp 56) 32 rfl W.heap.size 21 i0 _ 1 4 Tryz.underlying32 hi hz0 hz1 hz2 rfl (by decide) _ (k + 1) _ rfl HG2.out.1 _ _ _ ((zs.drop k).map (Value.int .i32)) rfl (by simp [HL.out]) (reads_src (reads_drop (HR.out.keep (HB.out.trans (HG2.out.2.mono HB.out.size))) hlt)) (ints_oneCell _ _) (by simp only [maxLen]; omega) (by omega) HG2.out.2.size ?_; intro v3 w3 q3 g3; have HG3 := Lib.hid (HG2.out.more q3 g3); obtain ⟨a3, cp3, rfl⟩ := ownShape q3; have b3 := (show RBox w3 (w.heap.size + 1) 0 0 from (HG3.out.2.block _ (by have := HS.out; omega)).trans HX.out); have c0 := b3.c0; have c1 := b3.c1; have f := b3.f; have HX3 := Lib.hid b3; clear q3 g3 HG2 b3))
        have r := HX3.out.set2 1 0
        have r0 := r.c0
        have r1 := r.c1
        have e := HG3.out.1
        rw [mid_map, show k + 1 + (n - k) = n + 1 by omega] at e
        have ml := mid_len HL.out hk x
        refine bodyPost_ret (v := .tuple #[.slice a3 (k + 1 + (n - k)) cp3, .agg #[.int .u8 1, .int .i32 0]]) (by simp [results, Tryz.results48, go_sem, r0, r1]) rfl ?_
        rw [HF.out, show k + 1 + (n - k) = n + 1 by omega]
        exact told_new (ys := zs.take k ++ x :: zs.drop k) (by rw [ml]; exact e) HS.out HB.out HG3.out.2
    · obtain rfl : k = n := by omega
      have HF := Lib.hid (show fgt x zs = k from fgt_is x zs k (by rw [HL.out]; exact Nat.le_refl _) HN.out (.inl HL.out.symm))
      go_upto_region 5 with (fail)
      go_quiet (fail)
      have HEd := Lib.hid (below_drewN HE.out nq)
      clear HE o1
      generalize wr.drewN nq = wd at *
      go_wp2_with (first
        | (at_builtin; refine wpList_append_src _ rfl (.tmp 43) (.tmp 46) 32 rfl W.heap.size 21 i0 _ 1 4 Tryz.underlying32 hi hz0 hz1 hz2 rfl (by decide) (.slice none 0 0) 0 [] rfl (World.ownsRow_nil _ _ _ _) _ _ _ ((zs.take k).map (Value.int .i32)) rfl (by simp [HL.out] <;> omega) (reads_src (reads_take (HR.out.keep (HB.out.trans (HEd.out.mono HB.out.size))) (by omega))) (ints_oneCell _ _) (by simp only [maxLen]; omega) (by omega) HEd.out.size ?_; intro v1 w1 q1 g1; have HG1 := Lib.hid (Grow.one HEd.out q1 g1); obtain ⟨a1, cp1, rfl⟩ := ownShape HG1.out.1; have o1 := (HG1.out.2.cell (p := ⟨w.heap.size, 1, none⟩) (by have := HS.out; simp; omega)).trans HO.out; clear q1 g1)
        | (at_builtin; refine wpList_append_own _ rfl (.tmp 48) (.tmp 51) 32 rfl W.heap.size 21 i0 _ 1 4 Tryz.underlying32 hi hz0 hz1 hz2 rfl (by decide) _ k _ rfl (HG1.out.1.alloc _) ⟨w1.heap.size, 0, none⟩ 1 1 [.int .i32 x] rfl rfl (by intro j u hu; cases j <;> simp at hu; subst hu; go_simp) (by intro u hu; simp at hu; subst hu; rfl) (by simp only [maxLen]; omega) (by omega) (Nat.le_trans HG1.out.2.size (by simp)) ?_; intro v2 w2 q2 g2 _; have HG2 := Lib.hid (HG1.out.box q2 g2); obtain ⟨a2, cp2, rfl⟩ := ownShape q2; clear q2 g2 HG1 o1)
        | (at_builtin; refine wpList_append_src _ rfl (.tmp 53) (.tmp 56) 32 rfl W.heap.size 21 i0 _ 1 4 Tryz.underlying32 hi hz0 hz1 hz2 rfl (by decide) _ (k + 1) _ rfl HG2.out.1 _ _ _ ((zs.drop k).map (Value.int .i32)) rfl (by simp [HL.out]) (fun h => absurd h (by omega)) (ints_oneCell _ _) (by simp only [maxLen]; omega) (by omega) HG2.out.2.size ?_; intro v3 w3 q3 g3; have HG3 := Lib.hid (HG2.out.more q3 g3); obtain ⟨a3, cp3, rfl⟩ := ownShape q3; have b3 := (show RBox w3 (w.heap.size + 1) 0 0 from (HG3.out.2.block _ (by have := HS.out; omega)).trans HX.out); have c0 := b3.c0; have c1 := b3.c1; have f := b3.f; have HX3 := Lib.hid b3; clear q3 g3 HG2 b3))
      all_goals
        have r := HX3.out.set2 1 0
        have r0 := r.c0
        have r1 := r.c1
        have e := HG3.out.1
        rw [mid_map, show k + 1 + 0 = k + 1 by omega] at e
        have ml := mid_len HL.out (Nat.le_refl _) x
        refine bodyPost_ret (v := .tuple #[.slice a3 (k + 1 + 0) cp3, .agg #[.int .u8 1, .int .i32 0]]) (by simp [results, Tryz.results48, go_sem, r0, r1]) rfl ?_
        rw [HF.out, show k + 1 + 0 = k + 1 by omega]
        exact told_new (ys := zs.take k ++ x :: zs.drop k) (by rw [ml]; exact e) HS.out HB.out HG3.out.2
end

end Go.Proofs.YtniefplgijpckaaGreat
namespace Go.Proofs.YtniefplgijpckaaGreat
open Go.RowKit Go.Lib

section
variable {w W w1 : World} {ao : Option Addr} {n cap : Nat} {zs : List Int}

theorem heapDo (most k x : Int) (hr : Reads .i32 w ao n zs) (hc : n ≤ cap) (hn : n ≤ 1000) :
    Calls Tryz.prog 48 #[.int .i64 most, .slice ao n cap, .agg #[.int .u8 k, .int .i32 x]] w (RefTold w ao zs (hpL (mostOf most) zs k x) (hpC (mostOf most) zs k) (hpV zs k)) := by
  have hl := hr.1
  by_cases e1 : k = 1
  · subst e1
    by_cases hf : (n : Int) < mostOf most
    · have := heapAdd most x hr hc hn hf
      simpa [hpC, hpV, hpL, hl, hf] using this
    · have := heapFull most x hr hc hn (by omega)
      simpa [hpC, hpV, hpL, hl, hf] using this
  · by_cases e2 : k = 2
    · subst e2
      cases zs with
      | nil =>
        have := heapNone most x hr hc (by simpa using hl.symm)
        simpa [hpC, hpV, hpL] using this
      | cons y ys =>
        obtain ⟨m, rfl⟩ : ∃ m, n = m + 1 := ⟨n - 1, by simp at hl; omega⟩
        by_cases h1 : cap = 1
        · have := heapPop1 most x y hr hc h1 (by omega)
          simpa [hpC, hpV, hpL] using this
        · have := heapPop most x y hr hc h1 (by omega)
          simpa [hpC, hpV, hpL] using this
    · have := heapBad most x hr hc hn k e1 e2
      simpa [hpC, hpV, hpL, e1, e2] using this

/-- The boxes with which it begins: the operation, what is told, what it is told. -/
theorem begunApp (w : World) (k x : Int) : ∀ W, ((w.alloc (.cells #[.int .u8 k, .int .i32 x] 49)).alloc (.cells #[.int .u8 0, .int .i32 0] 53)).alloc (.cells #[.int .u8 5, .int .i32 0] 53) = W →
    W.cell? ⟨w.heap.size, 0, none⟩ = some (.int .u8 k) ∧ W.cell? ⟨w.heap.size, 1, none⟩ = some (.int .i32 x) ∧ RBox W (w.heap.size + 1) 0 0 ∧ RBox W (w.heap.size + 2) 5 0 ∧ Below w.heap.size w W ∧ W.heap.size = w.heap.size + 3 := by
  rintro W rfl
  refine ⟨?_, ?_, ?_, ?_, (((Below.refl _ _).alloc (Nat.le_refl _) _).alloc (by simp) _).alloc (by simp; omega) _, by simp⟩
  · go_simp
  · go_simp
  · have := RBox.new (w.alloc (.cells #[.int .u8 k, .int .i32 x] 49)) 0 0
    have h := this.keep (b := ((w.alloc (.cells #[.int .u8 k, .int .i32 x] 49)).alloc (.cells #[.int .u8 0, .int .i32 0] 53)).alloc (.cells #[.int .u8 5, .int .i32 0] 53)) ((Below.refl _ _).alloc (Nat.le_refl _) _)
    simpa using h
  · have := RBox.new ((w.alloc (.cells #[.int .u8 k, .int .i32 x] 49)).alloc (.cells #[.int .u8 0, .int .i32 0] 53)) 5 0
    simpa using this

/-- What was told, behind the stores into its own boxes. -/
theorem app_told {Z : List Int} {c v : Int} {ao' : Option Addr} {cap' : Nat} {w2 : World} (hs : W.heap.size = w.heap.size + 3) (hb : Below w.heap.size w W) (hr' : Reads .i32 w1 ao' Z.length Z) (hc : Z.length ≤ cap') (hl : (ao' = ao ∧ Z = zs) ∨ ∀ a, ao' = some a → W.heap.size ≤ a.block ∧ a.block < w1.heap.size)
    (hold : Reads .i32 w ao n zs) (hb1 : Below W.heap.size W w1) (hw : Wrote (fun g => g = w.heap.size + 1 ∨ g = w.heap.size + 2) w1 w2) :
    RefTold w ao zs Z c v (.returned (.tuple #[.slice ao' Z.length cap', .agg #[.int .u8 c, .int .i32 v]])) w2 := by
  have hb2 : Below w.heap.size w w2 := (hb.trans (hb1.mono hb.size)).trans (hw.below (Nat.le_trans hb.size hb1.size) (fun g hg => by omega))
  rcases hl with ⟨e, e'⟩ | h
  · subst e e'
    have h := hold
    rw [← h.1] at h
    exact ⟨_, _, rfl, h.keep hb2, hc, .inl ⟨rfl, rfl⟩, hb2⟩
  · refine ⟨_, _, rfl, hr'.off (fun a ha hg => ?_) hw, hc, .inr (fun a ha => ⟨?_, ?_⟩), hb2⟩
    · have := (h a ha).1; omega
    · have := (h a ha).1; omega
    · exact Nat.lt_of_lt_of_le (h a ha).2 hw.size
end

section
variable {w : World} {ao : Option Addr} {n cap : Nat} {zs : List Int}

set_option maxRecDepth 100000 in
set_option maxHeartbeats 8000000 in
theorem refApply1 (most k x : Int) (hr : Reads .i32 w ao n zs) (hc : n ≤ cap) (hn : n ≤ 1000) (_ : 0 ≤ k) :
    Calls Tryz.prog 32 #[.int .u8 1, .int .i64 most, .slice ao n cap, .agg #[.int .u8 k, .int .i32 x]] w (RefTold w ao zs (stkL (mostOf most) zs k x) (stkC (mostOf most) zs k) (stkV zs k)) := by
  have HR := Lib.hid hr
  clear hr
  go_enter Tryz.func32, Tryz.ntmps32
  go_upto_region 3 with (fail)
  generalize hW : ((w.alloc (.cells #[.int .u8 k, .int .i32 x] 49)).alloc (.cells #[.int .u8 0, .int .i32 0] 53)).alloc (.cells #[.int .u8 5, .int .i32 0] 53) = W
  obtain ⟨o0, o1, b0, b1, hb, hs⟩ := begunApp w _ _ W hW
  have HB := Lib.hid hb
  have HS := Lib.hid hs
  have C := refDo most k x (HR.out.keep hb) hc hn
  have HC := Lib.hid C
  have HX := Lib.hid (And.intro b0 b1)
  clear hW hb hs C b0 b1
  go_wp2_with fail
  refine HC.out.mono ?_
  rintro e w1 ⟨ao', cap', rfl, r1, c1, l1, bl1⟩
  obtain ⟨Z, hZ⟩ : ∃ Z, (stkL (mostOf most) zs k x) = Z := ⟨_, rfl⟩
  obtain ⟨rc, hrc⟩ : ∃ c, (stkC (mostOf most) zs k) = c := ⟨_, rfl⟩
  obtain ⟨rv, hrv⟩ : ∃ c, (stkV zs k) = c := ⟨_, rfl⟩
  rw [hZ] at r1 c1 l1
  simp only [hZ, hrc, hrv]
  have z0 : RBox w1 (w.heap.size + 1) 0 0 := HX.out.1.keep bl1
  have z1 : RBox w1 (w.heap.size + 2) 5 0 := HX.out.2.keep bl1
  have HE0 := Lib.hid (show ∀ w2, Wrote (fun g => g = w.heap.size + 1 ∨ g = w.heap.size + 2) w1 w2 → RefTold w ao zs (stkL (mostOf most) zs k x) (stkC (mostOf most) zs k) (stkV zs k) (.returned (.tuple #[.slice ao' Z.length cap', .agg #[.int .u8 rc, .int .i32 rv]])) w2 from fun w2 hw => by
    rw [hZ, hrc, hrv]
    exact app_told HS.out HB.out r1 c1 l1 HR.out bl1 hw)
  have q0 := z1.c0
  have q1 := z1.c1
  have qf := z1.f
  clear r1 c1 l1 bl1 HC HX hZ hrc hrv
  go_upto_region 10 with (fail)
  have z1' := z1.set2 rc rv
  have z0' := z0.off (F := fun g => g = w.heap.size + 2) (by simp) (((Wrote.refl (fun g => g = w.heap.size + 2) w1).setCell (q := ⟨w.heap.size + 2, 0, none⟩) (.inr rfl) (.int .u8 rc)).setCell (q := ⟨w.heap.size + 2, 1, none⟩) (.inr rfl) (.int .i32 rv))
  have HZW := Lib.hid (((Wrote.refl (fun g => g = w.heap.size + 1 ∨ g = w.heap.size + 2) w1).setCell (q := ⟨w.heap.size + 2, 0, none⟩) (.inr (.inr rfl)) (.int .u8 rc)).setCell (q := ⟨w.heap.size + 2, 1, none⟩) (.inr (.inr rfl)) (.int .i32 rv))
  clear z0 z1 q0 q1 qf
  generalize ((w1.setCell ⟨w.heap.size + 2, 0, none⟩ (.int .u8 rc)).setCell ⟨w.heap.size + 2, 1, none⟩ (.int .i32 rv)) = w2 at *
  have z0 := z0'
  have z1 := z1'
  clear z0' z1'
  clear o0 o1
  have r := z0.set2 rc rv
  have r0 := r.c0
  have r1 := r.c1
  clear r
  have HZ := Lib.hid z0
  have d0 := z0.c0
  have d1 := z0.c1
  have df := z0.f
  have y0 := z1.c0
  have y1 := z1.c1
  clear z0 z1
  go_region
  all_goals
    have HE := Lib.hid (HE0.out _ (((HZW.out.setCell (q := ⟨w.heap.size + 1, 0, none⟩) (.inr (.inl rfl)) (.int .u8 rc)).setCell (q := ⟨w.heap.size + 1, 1, none⟩) (.inr (.inl rfl)) (.int .i32 rv)).drew))
    clear d0 d1 df y0 y1
    go_wp2
    exact bodyPost_ret (v := .tuple #[.slice ao' Z.length cap', .agg #[.int .u8 rc, .int .i32 rv]]) (by simp [results, Tryz.results32, go_sem, r0, r1]) rfl HE.out

set_option maxRecDepth 100000 in
set_option maxHeartbeats 8000000 in
theorem refApply2 (most k x : Int) (hr : Reads .i32 w ao n zs) (hc : n ≤ cap) (hn : n ≤ 1000) (k0 : 0 ≤ k) :
    Calls Tryz.prog 32 #[.int .u8 2, .int .i64 most, .slice ao n cap, .agg #[.int .u8 k, .int .i32 x]] w (RefTold w ao zs (dqL (mostOf most) zs k x) (dqC (mostOf most) zs k) (dqV zs k)) := by
  have HR := Lib.hid hr
  clear hr
  go_enter Tryz.func32, Tryz.ntmps32
  go_upto_region 3 with (fail)
  generalize hW : ((w.alloc (.cells #[.int .u8 k, .int .i32 x] 49)).alloc (.cells #[.int .u8 0, .int .i32 0] 53)).alloc (.cells #[.int .u8 5, .int .i32 0] 53) = W
  obtain ⟨o0, o1, b0, b1, hb, hs⟩ := begunApp w _ _ W hW
  have HB := Lib.hid hb
  have HS := Lib.hid hs
  have C := ref5Do most k x (HR.out.keep hb) hc hn k0
  have HC := Lib.hid C
  have HX := Lib.hid (And.intro b0 b1)
  clear hW hb hs C b0 b1
  go_wp2_with fail
  refine HC.out.mono ?_
  rintro e w1 ⟨ao', cap', rfl, r1, c1, l1, bl1⟩
  obtain ⟨Z, hZ⟩ : ∃ Z, (dqL (mostOf most) zs k x) = Z := ⟨_, rfl⟩
  obtain ⟨rc, hrc⟩ : ∃ c, (dqC (mostOf most) zs k) = c := ⟨_, rfl⟩
  obtain ⟨rv, hrv⟩ : ∃ c, (dqV zs k) = c := ⟨_, rfl⟩
  rw [hZ] at r1 c1 l1
  simp only [hZ, hrc, hrv]
  have z0 : RBox w1 (w.heap.size + 1) 0 0 := HX.out.1.keep bl1
  have z1 : RBox w1 (w.heap.size + 2) 5 0 := HX.out.2.keep bl1
  have HE0 := Lib.hid (show ∀ w2, Wrote (fun g => g = w.heap.size + 1 ∨ g = w.heap.size + 2) w1 w2 → RefTold w ao zs (dqL (mostOf most) zs k x) (dqC (mostOf most) zs k) (dqV zs k) (.returned (.tuple #[.slice ao' Z.length cap', .agg #[.int .u8 rc, .int .i32 rv]])) w2 from fun w2 hw => by
    rw [hZ, hrc, hrv]
    exact app_told HS.out HB.out r1 c1 l1 HR.out bl1 hw)
  have q0 := z1.c0
  have q1 := z1.c1
  have qf := z1.f
  clear r1 c1 l1 bl1 HC HX hZ hrc hrv
  go_upto_region 10 with (fail)
  have z1' := z1.set2 rc rv
  have z0' := z0.off (F := fun g => g = w.heap.size + 2) (by simp) (((Wrote.refl (fun g => g = w.heap.size + 2) w1).setCell (q := ⟨w.heap.size + 2, 0, none⟩) (.inr rfl) (.int .u8 rc)).setCell (q := ⟨w.heap.size + 2, 1, none⟩) (.inr rfl) (.int .i32 rv))
  have HZW := Lib.hid (((Wrote.refl (fun g => g = w.heap.size + 1 ∨ g = w.heap.size + 2) w1).setCell (q := ⟨w.heap.size + 2, 0, none⟩) (.inr (.inr rfl)) (.int .u8 rc)).setCell (q := ⟨w.heap.size + 2, 1, none⟩) (.inr (.inr rfl)) (.int .i32 rv))
  clear z0 z1 q0 q1 qf
  generalize ((w1.setCell ⟨w.heap.size + 2, 0, none⟩ (.int .u8 rc)).setCell ⟨w.heap.size + 2, 1, none⟩ (.int .i32 rv)) = w2 at *
  have z0 := z0'
  have z1 := z1'
  clear z0' z1'
  clear o0 o1
  have r := z0.set2 rc rv
  have r0 := r.c0
  have r1 := r.c1
  clear r
  have HZ := Lib.hid z0
  have d0 := z0.c0
  have d1 := z0.c1
  have df := z0.f
  have y0 := z1.c0
  have y1 := z1.c1
  clear z0 z1
  go_region
  all_goals
    have HE := Lib.hid (HE0.out _ (((HZW.out.setCell (q := ⟨w.heap.size + 1, 0, none⟩) (.inr (.inl rfl)) (.int .u8 rc)).setCell (q := ⟨w.heap.size + 1, 1, none⟩) (.inr (.inl rfl)) (.int .i32 rv)).drew))
    clear d0 d1 df y0 y1
    go_wp2
    exact bodyPost_ret (v := .tuple #[.slice ao' Z.length cap', .agg #[.int .u8 rc, .int .i32 rv]]) (by simp [results, Tryz.results32, go_sem, r0, r1]) rfl HE.out

set_option maxRecDepth 100000 in
set_option maxHeartbeats 8000000 in
theorem refApply3 (most k x : Int) (hr : Reads .i32 w ao n zs) (hc : n ≤ cap) (hn : n ≤ 1000) (_ : 0 ≤ k) :
    Calls Tryz.prog 32 #[.int .u8 3, .int .i64 most, .slice ao n cap, .agg #[.int .u8 k, .int .i32 x]] w (RefTold w ao zs (hpL (mostOf most) zs k x) (hpC (mostOf most) zs k) (hpV zs k)) := by
  have HR := Lib.hid hr
  clear hr
  go_enter Tryz.func32, Tryz.ntmps32
  go_upto_region 3 with (fail)
  generalize hW : ((w.alloc (.cells #[.int .u8 k, .int .i32 x] 49)).alloc (.cells #[.int .u8 0, .int .i32 0] 53)).alloc (.cells #[.int .u8 5, .int .i32 0] 53) = W
  obtain ⟨o0, o1, b0, b1, hb, hs⟩ := begunApp w _ _ W hW
  have HB := Lib.hid hb
  have HS := Lib.hid hs
  have C := heapDo most k x (HR.out.keep hb) hc hn
  have HC := Lib.hid C
  have HX := Lib.hid (And.intro b0 b1)
  clear hW hb hs C b0 b1
  go_wp2_with fail
  refine HC.out.mono ?_
  rintro e w1 ⟨ao', cap', rfl, r1, c1, l1, bl1⟩
  obtain ⟨Z, hZ⟩ : ∃ Z, (hpL (mostOf most) zs k x) = Z := ⟨_, rfl⟩
  obtain ⟨rc, hrc⟩ : ∃ c, (hpC (mostOf most) zs k) = c := ⟨_, rfl⟩
  obtain ⟨rv, hrv⟩ : ∃ c, (hpV zs k) = c := ⟨_, rfl⟩
  rw [hZ] at r1 c1 l1
  simp only [hZ, hrc, hrv]
  have z0 : RBox w1 (w.heap.size + 1) 0 0 := HX.out.1.keep bl1
  have z1 : RBox w1 (w.heap.size + 2) 5 0 := HX.out.2.keep bl1
  have HE0 := Lib.hid (show ∀ w2, Wrote (fun g => g = w.heap.size + 1 ∨ g = w.heap.size + 2) w1 w2 → RefTold w ao zs (hpL (mostOf most) zs k x) (hpC (mostOf most) zs k) (hpV zs k) (.returned (.tuple #[.slice ao' Z.length cap', .agg #[.int .u8 rc, .int .i32 rv]])) w2 from fun w2 hw => by
    rw [hZ, hrc, hrv]
    exact app_told HS.out HB.out r1 c1 l1 HR.out bl1 hw)
  have q0 := z1.c0
  have q1 := z1.c1
  have qf := z1.f
  clear r1 c1 l1 bl1 HC HX hZ hrc hrv
  go_upto_region 10 with (fail)
  have z1' := z1.set2 rc rv
  have z0' := z0.off (F := fun g => g = w.heap.size + 2) (by simp) (((Wrote.refl (fun g => g = w.heap.size + 2) w1).setCell (q := ⟨w.heap.size + 2, 0, none⟩) (.inr rfl) (.int .u8 rc)).setCell (q := ⟨w.heap.size + 2, 1, none⟩) (.inr rfl) (.int .i32 rv))
  have HZW := Lib.hid (((Wrote.refl (fun g => g = w.heap.size + 1 ∨ g = w.heap.size + 2) w1).setCell (q := ⟨w.heap.size + 2, 0, none⟩) (.inr (.inr rfl)) (.int .u8 rc)).setCell (q := ⟨w.heap.size + 2, 1, none⟩) (.inr (.inr rfl)) (.int .i32 rv))
  clear z0 z1 q0 q1 qf
  generalize ((w1.setCell ⟨w.heap.size + 2, 0, none⟩ (.int .u8 rc)).setCell ⟨w.heap.size + 2, 1, none⟩ (.int .i32 rv)) = w2 at *
  have z0 := z0'
  have z1 := z1'
  clear z0' z1'
  clear o0 o1
  have r := z0.set2 rc rv
  have r0 := r.c0
  have r1 := r.c1
  clear r
  have HZ := Lib.hid z0
  have d0 := z0.c0
  have d1 := z0.c1
  have df := z0.f
  have y0 := z1.c0
  have y1 := z1.c1
  clear z0 z1
  go_region
  all_goals
    have HE := Lib.hid (HE0.out _ (((HZW.out.setCell (q := ⟨w.heap.size + 1, 0, none⟩) (.inr (.inl rfl)) (.int .u8 rc)).setCell (q := ⟨w.heap.size + 1, 1, none⟩) (.inr (.inl rfl)) (.int .i32 rv)).drew))
    clear d0 d1 df y0 y1
    go_wp2
    exact bodyPost_ret (v := .tuple #[.slice ao' Z.length cap', .agg #[.int .u8 rc, .int .i32 rv]]) (by simp [results, Tryz.results32, go_sem, r0, r1]) rfl HE.out

set_option maxRecDepth 100000 in
set_option maxHeartbeats 8000000 in
theorem refApply0 (obj : Int) (most k x : Int) (hr : Reads .i32 w ao n zs) (hc : n ≤ cap) (_ : n ≤ 1000) (_ : 0 ≤ k) (e1 : ¬ obj = 1) (e2 : ¬ obj = 2) (e3 : ¬ obj = 3) :
    Calls Tryz.prog 32 #[.int .u8 obj, .int .i64 most, .slice ao n cap, .agg #[.int .u8 k, .int .i32 x]] w (RefTold w ao zs zs 5 0) := by
  have HR := Lib.hid hr
  clear hr
  have t1 := beq_eq_false_iff_ne.2 e1
  have t2 := beq_eq_false_iff_ne.2 e2
  have t3 := beq_eq_false_iff_ne.2 e3
  clear e1 e2 e3
  go_enter Tryz.func32, Tryz.ntmps32
  go_upto_region 3 with (fail)
  generalize hW : ((w.alloc (.cells #[.int .u8 k, .int .i32 x] 49)).alloc (.cells #[.int .u8 0, .int .i32 0] 53)).alloc (.cells #[.int .u8 5, .int .i32 0] 53) = W
  obtain ⟨o0, o1, b0, b1, hb, hs⟩ := begunApp w _ _ W hW
  have HB := Lib.hid hb
  have HS := Lib.hid hs
  have z0 := b0
  have z1 := b1
  clear hW b0 b1 hb hs
  obtain ⟨rc, hrc⟩ : ∃ c : Int, 5 = c := ⟨_, rfl⟩
  obtain ⟨rv, hrv⟩ : ∃ c : Int, 0 = c := ⟨_, rfl⟩
  go_upto_region 10 with (fail)
  rw [hrc, hrv] at z1
  have HZW := Lib.hid (Wrote.refl (fun g => g = w.heap.size + 1 ∨ g = w.heap.size + 2) W)
  have HE0 := Lib.hid (show ∀ w2, Wrote (fun g => g = w.heap.size + 1 ∨ g = w.heap.size + 2) W w2 → RefTold w ao zs zs 5 0 (.returned (.tuple #[.slice ao n cap, .agg #[.int .u8 rc, .int .i32 rv]])) w2 from fun w2 hw => by
    have h := app_told (c := rc) (v := rv) (cap' := cap) (ao' := ao) HS.out HB.out (by rw [HR.out.1]; exact HR.out.keep HB.out) (by rw [HR.out.1]; exact hc) (.inl ⟨rfl, rfl⟩) HR.out (Below.refl _ _) hw
    rw [HR.out.1] at h
    rw [hrc, hrv]
    exact h)
  clear hrc hrv
  clear o0 o1
  have r := z0.set2 rc rv
  have r0 := r.c0
  have r1 := r.c1
  clear r
  have HZ := Lib.hid z0
  have d0 := z0.c0
  have d1 := z0.c1
  have df := z0.f
  have y0 := z1.c0
  have y1 := z1.c1
  clear z0 z1
  go_region
  all_goals
    have HE := Lib.hid (HE0.out _ (((HZW.out.setCell (q := ⟨w.heap.size + 1, 0, none⟩) (.inr (.inl rfl)) (.int .u8 rc)).setCell (q := ⟨w.heap.size + 1, 1, none⟩) (.inr (.inl rfl)) (.int .i32 rv)).drew))
    clear d0 d1 df y0 y1
    go_wp2
    exact bodyPost_ret (v := .tuple #[.slice ao n cap, .agg #[.int .u8 rc, .int .i32 rv]]) (by simp [results, Tryz.results32, go_sem, r0, r1]) rfl HE.out

/-- Whatever the object is. -/
theorem refApply (obj most k x : Int) (hr : Reads .i32 w ao n zs) (hc : n ≤ cap) (hn : n ≤ 1000) (k0 : 0 ≤ k) :
    Calls Tryz.prog 32 #[.int .u8 obj, .int .i64 most, .slice ao n cap, .agg #[.int .u8 k, .int .i32 x]] w (RefTold w ao zs (objL obj (mostOf most) zs k x) (objC obj (mostOf most) zs k) (objV obj zs k)) := by
  by_cases e1 : obj = 1
  · subst e1
    simpa [objL, objC, objV] using refApply1 most k x hr hc hn k0
  · by_cases e2 : obj = 2
    · subst e2
      simpa [objL, objC, objV] using refApply2 most k x hr hc hn k0
    · by_cases e3 : obj = 3
      · subst e3
        simpa [objL, objC, objV] using refApply3 most k x hr hc hn k0
      · simpa [objL, objC, objV, e1, e2, e3] using refApply0 obj most k x hr hc hn k0 e1 e2 e3
end

end Go.Proofs.YtniefplgijpckaaGreat
