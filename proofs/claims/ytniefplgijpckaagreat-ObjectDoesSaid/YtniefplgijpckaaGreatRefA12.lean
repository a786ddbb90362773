/-
  What reaperref04.Most and reaperref04.Do tell: as stkL, stkC and stkV say. Conditions: a list of at most a thousand numbers; a kind of 0 to 255. What reaperref05.Do tells: as dqL, dqC and dqV say. Conditions: a list of at most a thousand numbers; a kind of 0 to 255. What operations of each object do, in plain lists, in an order; a list aside. Conditions: none.
-/
import Derived.Test.YtniefplgijpckaaGreatBasB12
import Derived.Test.YtniefplgijpckaaGreatOrdA12
namespace Go.Proofs.YtniefplgijpckaaGreat
open Go.RowKit

/-- What an operation makes of the items. -/
def stkL (most : Int) (zs : List Int) (k x : Int) : List Int :=
  if k = 1 then (if (zs.length : Int) < most then zs ++ [x] else zs) else if k = 2 then zs.dropLast else zs
/-- What it is told: a code. -/
def stkC (most : Int) (zs : List Int) (k : Int) : Int :=
  if k = 1 then (if (zs.length : Int) < most then 1 else 3) else if k = 2 then (if zs = [] then 4 else 2) else 5
/-- What it is told: a value. -/
def stkV (zs : List Int) (k : Int) : Int := if k = 2 then zs.getLastD 0 else 0

set_option maxRecDepth 100000 in
set_option maxHeartbeats 1600000 in
theorem refMost (n : Int) (w : World) :
    Calls Tryz.prog 49 #[.int .i64 n] w fun e w' => e = .returned (.int .i64 (mostOf n)) ∧ w = w' := by
  rcases (show n < 0 ∨ 1000 < n ∨ (0 ≤ n ∧ n ≤ 1000) from by omega) with h | h | h
  · have HE := Lib.hid (show mostOf n = 0 by unfold mostOf; rw [if_pos h])
    have h2 : n < 1000 := by omega
    go_enter Tryz.func49, Tryz.ntmps49
    go_wp2
    go_ret
    exact ⟨by rw [HE.out]; rfl, rfl⟩
  · have HE := Lib.hid (show mostOf n = 1000 by unfold mostOf; rw [if_neg (by omega), if_pos h])
    go_enter Tryz.func49, Tryz.ntmps49
    go_wp2
    go_ret
    exact ⟨by rw [HE.out]; rfl, rfl⟩
  · have HE := Lib.hid (mostOf_self n h.1 h.2)
    obtain ⟨h0, h1⟩ := h
    rcases (show n = 0 ∨ n = 1000 ∨ (0 < n ∧ n < 1000) from by omega) with h | h | ⟨h2, h3⟩
    · subst h
      go_enter Tryz.func49, Tryz.ntmps49
      go_wp2
      go_ret
      exact ⟨by rw [HE.out]; rfl, rfl⟩
    · subst h
      go_enter Tryz.func49, Tryz.ntmps49
      go_wp2
      go_ret
      exact ⟨by rw [HE.out]; rfl, rfl⟩
    · go_enter Tryz.func49, Tryz.ntmps49
      go_wp2
      go_ret
      exact ⟨by rw [HE.out]; rfl, rfl⟩

/-- Nothing is appended where the source is nil. -/
theorem run_append_nothing {P : Program} (w : World) (base : Nat) (t ty e : TypeId) (i : TypeInfo) (size : Nat) (ht : P.underlying t = some (.slice e)) (hi : P.info? e = some i) (v : Value) (n : Nat) (xs : List Value) (hown : w.ownsRow base e size v n xs) (c : Nat) :
    (Builtin.append_ #[t, t] ty #[v, .slice none 0 c]).run P w = .ok v w := by
  rcases hown.2 with ⟨rfl, rfl⟩ | ⟨g, cap, cur, rfl, _, _, hle, _⟩
  · simp [Builtin.append_, run_underlying ht, sizeOf, typeInfo, hi, Builtin.lenOf, Builtin.firstCells]
  · simp [Builtin.append_, run_underlying ht, sizeOf, typeInfo, hi, Builtin.lenOf, Builtin.firstCells, hle, storeCells]

/-- append to a row of one's own, whatever the source is. -/
theorem wpList_append_src {P : Program} (w : World) {ops : Array Oper} {rest : List Oper} {o : Oper} {a : Act} {Q : Exit → Act → World → Prop} (hgd : o.guard = none) (s x : Operand) (t : TypeId)
    (ho : o.op = .call { callee := .builtin .append, args := #[s, x], argTypes := #[t, t] })
    (base : Nat) (e : TypeId) (i : TypeInfo) (z : Value) (size bytes : Nat) (ht : P.underlying t = some (.slice e)) (hi : P.info? e = some i) (hz : i.zero = some z)
    (hsize : i.size = size) (hby : i.bytes = bytes) (hzs : z.cells.size = size) (hsz : 0 < size)
    (v : Value) (n : Nat) (xs : List Value) (hs : a.eval s = v) (hown : w.ownsRow base e size v n xs)
    (A : Option Addr) (m c : Nat) (news : List Value) (hx : a.eval x = .slice A m c) (hl : news.length = m * size) (hnews : 0 < m → ∃ ad, A = some ad ∧ ∀ j u, news[j]? = some u → w.cell? (ad.add j) = some u) (h1 : ∀ u ∈ news, u.oneCell' = true)
    (h63 : n + m ≤ maxLen) (hbytes : (n + m) * bytes ≤ 140737488355328) (hbase : base ≤ w.heap.size)
    (h : ∀ v' w', w'.ownsRow base e size v' (n + m) (xs ++ news) → w.grownBy w' v.ownBlock → wpList P ops Q rest (a.put o.dst v') w') : wpList P ops Q (o :: rest) a w := by
  cases A with
  | some ad =>
    refine wpList_append_own w hgd s x t ho base e i z size bytes ht hi hz hsize hby hzs hsz v n xs hs hown ad m c news hx hl ?_ h1 h63 hbytes hbase fun v' w' h2 h3 _ => h v' w' h2 h3
    rcases Nat.eq_zero_or_pos m with h0 | h0
    · subst h0
      have hn : news = [] := List.eq_nil_of_length_eq_zero (by simpa using hl)
      subst hn
      intro j u hu
      simp at hu
    · obtain ⟨ad', e', hc⟩ := hnews h0
      injection e' with e'
      subst e'
      exact hc
  | none =>
    have hm : m = 0 := by
      rcases Nat.eq_zero_or_pos m with h0 | h0
      · exact h0
      · obtain ⟨_, e', _⟩ := hnews h0
        cases e'
    subst hm
    have hn : news = [] := List.eq_nil_of_length_eq_zero (by simpa using hl)
    subst hn
    refine wpList_plain hgd fun K hK => ?_
    have hrun := run_append_nothing (P := P) w base t o.type e i size ht hi v n xs hown c
    unfold Oper.wp
    simp [execOp, ho, resolve, invoke, builtin, hs, hx, hrun, Result.andThen]
    exact hK _ _ (h v w (by simpa using hown) ⟨rfl, rfl, rfl, Nat.le_refl _, fun _ _ _ => rfl⟩)

/-- A list but for its last number. -/
theorem reads_front {w : World} {ao : Option Addr} {n : Nat} {zs : List Int} {y : Int} (h : Reads .i32 w ao (n + 1) (zs ++ [y])) : Reads .i32 w ao n zs := by
  have hl : zs.length = n := by have := h.1; simpa using this
  refine ⟨hl, fun hp => ?_⟩
  obtain ⟨b, off, e, bl, hc⟩ := h.2 (by omega)
  refine ⟨b, off, e, bl, fun i hi => ?_⟩
  rw [hc i (by omega)]
  simp [List.getD, List.getElem?_append_left (show i < zs.length by omega)]

/-- What Do of the document tells: a list that reads as these, the old one or a new one. -/
def RefTold (w : World) (ao : Option Addr) (zo zs : List Int) (c x : Int) (e : Ending) (w' : World) : Prop :=
  ∃ ao' cap', e = .returned (.tuple #[.slice ao' zs.length cap', .agg #[.int .u8 c, .int .i32 x]]) ∧ Reads .i32 w' ao' zs.length zs ∧ zs.length ≤ cap' ∧ ((ao' = ao ∧ zs = zo) ∨ ∀ a, ao' = some a → w.heap.size ≤ a.block ∧ a.block < w'.heap.size) ∧ Below w.heap.size w w'

/-- The boxes with which it begins: the operation, what is told. -/
theorem begunRef (w : World) (k x : Int) : ∀ W, (w.alloc (.cells #[.int .u8 k, .int .i32 x] 49)).alloc (.cells #[.int .u8 0, .int .i32 0] 53) = W →
    W.cell? ⟨w.heap.size, 0, none⟩ = some (.int .u8 k) ∧ W.cell? ⟨w.heap.size, 1, none⟩ = some (.int .i32 x) ∧ RBox W (w.heap.size + 1) 0 0 ∧ Below w.heap.size w W ∧ W.heap.size = w.heap.size + 1 + 1 := by
  rintro W rfl
  refine ⟨?_, ?_, ?_, ((Below.refl _ _).alloc (Nat.le_refl _) _).alloc (by simp) _, by simp⟩
  · go_simp
  · go_simp
  · unfold RBox
    have := heap_alloc_new (w.alloc (.cells #[.int .u8 k, .int .i32 x] 49)) (.cells #[.int .u8 0, .int .i32 0] 53)
    simpa using this

section
variable {w W w1 : World} {ao : Option Addr} {n cap : Nat} {zs : List Int}
/-- The old list is told. -/
theorem told_old {c c' : Int} (hr : Reads .i32 w ao n zs) (hc : n ≤ cap) (hb : Below w.heap.size w W) :
    RefTold w ao zs zs c c' (.returned (.tuple #[.slice ao n cap, .agg #[.int .u8 c, .int .i32 c']])) ((W.setCell ⟨w.heap.size + 1, 0, none⟩ (.int .u8 c)).setCell ⟨w.heap.size + 1, 1, none⟩ (.int .i32 c')) := by
  have hb2 := (hb.setCell (p := ⟨w.heap.size + 1, 0, none⟩) (by simp) (.int .u8 c)).setCell (p := ⟨w.heap.size + 1, 1, none⟩) (by simp) (.int .i32 c')
  obtain rfl := hr.1
  exact ⟨ao, cap, rfl, hr.keep hb2, hc, .inl ⟨rfl, rfl⟩, hb2⟩
/-- A new list is told. -/
theorem told_new {c c' : Int} {v : Value} {ys : List Int} (ho : w1.ownsRow W.heap.size 21 1 v ys.length (ys.map (Value.int .i32))) (hs : W.heap.size = w.heap.size + 1 + 1) (hb : Below w.heap.size w W) (hb1 : Below W.heap.size W w1) :
    RefTold w ao zs ys c c' (.returned (.tuple #[v, .agg #[.int .u8 c, .int .i32 c']])) ((w1.setCell ⟨w.heap.size + 1, 0, none⟩ (.int .u8 c)).setCell ⟨w.heap.size + 1, 1, none⟩ (.int .i32 c')) := by
  have hne : ∀ g, v.ownBlock = some g → W.heap.size ≤ g ∧ g < w1.heap.size := fun g hg => ho.lt g hg
  have hv : v.ownBlock ≠ some (w.heap.size + 1) := fun e => by have := (hne _ e).1; omega
  have ho2 := ownsRow_setCell_other (a := ⟨w.heap.size + 1, 1, none⟩) (ownsRow_setCell_other (a := ⟨w.heap.size + 1, 0, none⟩) ho hv (.int .u8 c)) hv (.int .i32 c')
  obtain ⟨a, cp, rfl, h1, h2, h3⟩ := reads_own ho2
  have hb2 : Below w.heap.size w w1 := hb.trans (hb1.mono hb.size)
  refine ⟨a, cp, rfl, h1, h2, .inr fun x hx => ?_, (hb2.setCell (p := ⟨w.heap.size + 1, 0, none⟩) (by simp) _).setCell (p := ⟨w.heap.size + 1, 1, none⟩) (by simp) _⟩
  subst hx
  have := hne x.block rfl
  simp only [World.setCell, Array.size_modify]
  omega

set_option maxRecDepth 100000 in
set_option maxHeartbeats 3200000 in
theorem refFull (most x : Int) (hr : Reads .i32 w ao n zs) (hc : n ≤ cap) (_ : n ≤ 1000) (hf : mostOf most ≤ n) :
    Calls Tryz.prog 46 #[.int .i64 most, .slice ao n cap, .agg #[.int .u8 1, .int .i32 x]] w (RefTold w ao zs zs 3 0) := by
  have HR := Lib.hid hr
  clear hr
  go_enter Tryz.func46, Tryz.ntmps46
  go_upto_region 1 with (fail)
  generalize hW : (w.alloc (.cells #[.int .u8 1, .int .i32 x] 49)).alloc (.cells #[.int .u8 0, .int .i32 0] 53) = W
  obtain ⟨o0, o1, b0, hb, hs⟩ := begunRef w _ _ W hW
  have c0 := b0.c0
  have c1 := b0.c1
  have f := b0.f
  have HB := Lib.hid hb
  have HS := Lib.hid hs
  have HX := Lib.hid b0
  clear hW hb hs b0
  have r := HX.out.set2 3 0
  have r0 := r.c0
  have r1 := r.c1
  clear r
  have M := refMost most W
  go_wp2_with (go_at_call 49; refine M.mono ?_; rintro e w' ⟨rfl, rfl⟩)
  exact bodyPost_ret (v := .tuple #[.slice ao n cap, .agg #[.int .u8 3, .int .i32 0]]) (by simp [results, Tryz.results46, go_sem, r0, r1]) rfl (told_old HR.out hc HB.out)

set_option maxRecDepth 100000 in
set_option maxHeartbeats 3200000 in
theorem refNone (most x : Int) (hr : Reads .i32 w ao n zs) (hc : n ≤ cap) (_ : n ≤ 1000) (h0 : n = 0) :
    Calls Tryz.prog 46 #[.int .i64 most, .slice ao n cap, .agg #[.int .u8 2, .int .i32 x]] w (RefTold w ao zs zs 4 0) := by
  have HR := Lib.hid hr
  clear hr
  have h1 : ¬ 0 < n := by omega
  clear h0
  go_enter Tryz.func46, Tryz.ntmps46
  go_upto_region 1 with (fail)
  generalize hW : (w.alloc (.cells #[.int .u8 2, .int .i32 x] 49)).alloc (.cells #[.int .u8 0, .int .i32 0] 53) = W
  obtain ⟨o0, o1, b0, hb, hs⟩ := begunRef w _ _ W hW
  have c0 := b0.c0
  have c1 := b0.c1
  have f := b0.f
  have HB := Lib.hid hb
  have HS := Lib.hid hs
  have HX := Lib.hid b0
  clear hW hb hs b0
  have r := HX.out.set2 4 0
  have r0 := r.c0
  have r1 := r.c1
  clear r
  have M := refMost most W
  go_wp2_with (go_at_call 49; refine M.mono ?_; rintro e w' ⟨rfl, rfl⟩)
  exact bodyPost_ret (v := .tuple #[.slice ao n cap, .agg #[.int .u8 4, .int .i32 0]]) (by simp [results, Tryz.results46, go_sem, r0, r1]) rfl (told_old HR.out hc HB.out)

set_option maxRecDepth 100000 in
set_option maxHeartbeats 3200000 in
theorem refBad (most x : Int) (hr : Reads .i32 w ao n zs) (hc : n ≤ cap) (_ : n ≤ 1000) (k : Int) (k0 : k ≠ 1) (k1 : k ≠ 2) :
    Calls Tryz.prog 46 #[.int .i64 most, .slice ao n cap, .agg #[.int .u8 k, .int .i32 x]] w (RefTold w ao zs zs 5 0) := by
  have HR := Lib.hid hr
  clear hr
  have d1 := beq_eq_false_iff_ne.2 k0
  have d2 := beq_eq_false_iff_ne.2 k1
  clear k0 k1
  go_enter Tryz.func46, Tryz.ntmps46
  go_upto_region 1 with (fail)
  generalize hW : (w.alloc (.cells #[.int .u8 k, .int .i32 x] 49)).alloc (.cells #[.int .u8 0, .int .i32 0] 53) = W
  obtain ⟨o0, o1, b0, hb, hs⟩ := begunRef w _ _ W hW
  have c0 := b0.c0
  have c1 := b0.c1
  have f := b0.f
  have HB := Lib.hid hb
  have HS := Lib.hid hs
  have HX := Lib.hid b0
  clear hW hb hs b0
  have r := HX.out.set2 5 0
  have r0 := r.c0
  have r1 := r.c1
  clear r
  have M := refMost most W
  go_wp2_with (go_at_call 49; refine M.mono ?_; rintro e w' ⟨rfl, rfl⟩)
  exact bodyPost_ret (v := .tuple #[.slice ao n cap, .agg #[.int .u8 5, .int .i32 0]]) (by simp [results, Tryz.results46, go_sem, r0, r1]) rfl (told_old HR.out hc HB.out)

/-- What stands behind the first append. -/
theorem appended1 {x : Int} {v : Value} {m : Nat} {Z : List Value} (b0 : RBox W (w.heap.size + 1) 0 0) (o1 : W.cell? ⟨w.heap.size, 1, none⟩ = some (.int .i32 x)) (hs : W.heap.size = w.heap.size + 1 + 1) (q : w1.ownsRow W.heap.size 21 1 v (0 + m) ([] ++ Z)) (g : W.grownBy w1 (Value.ownBlock (.slice none 0 0))) :
    w1.cell? ⟨w.heap.size, 1, none⟩ = some (.int .i32 x) ∧ RBox w1 (w.heap.size + 1) 0 0 ∧ Below W.heap.size W w1 ∧ w1.ownsRow W.heap.size 21 1 v m Z := by
  have hb : Below W.heap.size W w1 := (Below.refl _ _).grown g (Nat.le_refl _) (by simp [Value.ownBlock])
  rw [Nat.zero_add, List.nil_append] at q
  exact ⟨(hb.cell (p := ⟨w.heap.size, 1, none⟩) (by simp; omega)).trans o1, (hb.block _ b0.lt).trans b0, hb, q⟩
/-- And behind the second one. -/
theorem appended2 {v : Value} {m : Nat} {Z : List Value} {o : Obj} {w2 : World} (b0 : RBox w1 (w.heap.size + 1) 0 0) (hs : W.heap.size = w.heap.size + 1 + 1) (hb : Below W.heap.size W w1) (q : w1.ownsRow W.heap.size 21 1 v m Z) (g : (w1.alloc o).grownBy w2 v.ownBlock) :
    RBox w2 (w.heap.size + 1) 0 0 ∧ Below W.heap.size W w2 := by
  have hb2 : Below W.heap.size w1 w2 := ((Below.refl _ w1).alloc hb.size o).grown g (Nat.le_trans hb.size (by simp)) (fun k e => (q.lt k e).1)
  exact ⟨(hb2.block _ (by omega)).trans b0, hb.trans hb2⟩

set_option maxRecDepth 100000 in
set_option maxHeartbeats 3200000 in
theorem refPush (most x : Int) (hr : Reads .i32 w ao n zs) (_ : n ≤ cap) (hn : n ≤ 1000) (hf : (n : Int) < mostOf most) :
    Calls Tryz.prog 46 #[.int .i64 most, .slice ao n cap, .agg #[.int .u8 1, .int .i32 x]] w (RefTold w ao zs (zs ++ [x]) 1 0) := by
  obtain ⟨i0, hi, hz0, hz1, hz2⟩ := info_parts infoI32
  have HR := Lib.hid hr
  have HL := Lib.hid hr.1
  clear hr
  go_enter Tryz.func46, Tryz.ntmps46
  go_upto_region 1 with (fail)
  generalize hW : (w.alloc (.cells #[.int .u8 1, .int .i32 x] 49)).alloc (.cells #[.int .u8 0, .int .i32 0] 53) = W
  obtain ⟨o0, o1, b0, hb, hs⟩ := begunRef w _ _ W hW
  have HB := Lib.hid hb
  have HS := Lib.hid hs
  have HX := Lib.hid b0
  clear hW hb hs b0
  have M := refMost most W
  go_upto_region 5 with (go_at_call 49; refine M.mono ?_; rintro e w' ⟨rfl, rfl⟩)
  clear M
  go_wp2_with (first | (at_builtin; refine wpList_append_src _ rfl (.tmp 26) (.tmp 27) 32 rfl W.heap.size 21 i0 _ 1 4 Tryz.underlying32 hi hz0 hz1 hz2 rfl (by decide) (.slice none 0 0) 0 [] rfl (World.ownsRow_nil _ _ _ _) ao n cap (zs.map (Value.int .i32)) rfl (by simp [HR.out.1]) (reads_src (HR.out.keep HB.out)) (ints_oneCell _ _) (by simp only [maxLen]; omega) (by omega) (Nat.le_refl _) ?_; intro v1 w1 q1 g1; obtain ⟨e1, e2, e3, e4⟩ := appended1 HX.out o1 HS.out q1 g1; obtain ⟨a1, cp1, rfl⟩ := ownShape e4; have HO1 := Lib.hid e4; have HX1 := Lib.hid e2; have HB1 := Lib.hid e3; clear q1 g1 e2 e3 e4 o0 o1) | (at_builtin; refine wpList_append_own _ rfl (.tmp 29) (.tmp 32) 32 rfl W.heap.size 21 i0 _ 1 4 Tryz.underlying32 hi hz0 hz1 hz2 rfl (by decide) _ _ _ rfl (HO1.out.alloc _) ⟨_, 0, none⟩ 1 1 [.int .i32 x] rfl rfl (by intro j u hu; cases j <;> simp at hu; subst hu; go_simp) (by intro u hu; simp at hu; subst hu; rfl) (by simp only [maxLen]; omega) (by omega) (Nat.le_trans HB1.out.size (by simp)) ?_; intro v2 w2 q2 g2 _; obtain ⟨e2, e3⟩ := appended2 HX1.out HS.out HB1.out HO1.out g2; obtain ⟨a2, cp2, rfl⟩ := ownShape q2; have HO2 := Lib.hid q2; have HX2 := Lib.hid e2; have HB2 := Lib.hid e3; have c0 := e2.c0; have c1 := e2.c1; have f := e2.f; clear q2 g2 e2 e3 e1))
  have r := HX2.out.set2 1 0
  have r0 := r.c0
  have r1 := r.c1
  exact bodyPost_ret (v := .tuple #[.slice a2 (n + 1) cp2, .agg #[.int .u8 1, .int .i32 0]]) (by simp [results, Tryz.results46, go_sem, r0, r1]) rfl (told_new (ys := zs ++ [x]) (by simpa [HL.out] using HO2.out) HS.out HB.out HB2.out)

set_option maxRecDepth 100000 in
set_option maxHeartbeats 3200000 in
theorem refPop (most x y : Int) (hr : Reads .i32 w ao (n + 1) (zs ++ [y])) (hc : n + 1 ≤ cap) (hn : n ≤ 1000) :
    Calls Tryz.prog 46 #[.int .i64 most, .slice ao (n + 1) cap, .agg #[.int .u8 2, .int .i32 x]] w (RefTold w ao (zs ++ [y]) zs 2 y) := by
  obtain ⟨i0, hi, hz0, hz1, hz2⟩ := info_parts infoI32
  have HL := Lib.hid (show zs.length = n by have := hr.1; simpa using this)
  have HR := Lib.hid (show Reads .i32 w ao n zs from reads_front hr)
  obtain ⟨b, off, rfl, bl, hcs⟩ := hr.2 (by omega)
  have cy := hcs n (by omega)
  rw [show (zs ++ [y]).getD n 0 = y by rw [← HL.out]; simp [List.getD]] at cy
  clear hr hcs
  have e1 : IntKind.i64.wrap (((n + 1 : Nat) : Int) - 1) = (n : Int) := by rw [IntKind.wrap_i64]; omega
  have e2 : ((n + 1 : Nat) : Int) - 1 = (n : Int) := by omega
  go_enter Tryz.func46, Tryz.ntmps46
  go_upto_region 1 with (fail)
  generalize hW : (w.alloc (.cells #[.int .u8 2, .int .i32 x] 49)).alloc (.cells #[.int .u8 0, .int .i32 0] 53) = W
  obtain ⟨o0, o1, b0, hb, hs⟩ := begunRef w _ _ W hW
  have HB := Lib.hid hb
  have HS := Lib.hid hs
  have HX := Lib.hid b0
  clear hW hb hs b0
  have HCY := Lib.hid (And.intro bl cy)
  clear cy e1 e2
  go_upto_region 10 with (at_builtin; refine wpList_append_src _ rfl (.tmp 45) (.tmp 50) 32 rfl W.heap.size 21 i0 _ 1 4 Tryz.underlying32 hi hz0 hz1 hz2 rfl (by decide) (.slice none 0 0) 0 [] rfl (World.ownsRow_nil _ _ _ _) (some ⟨b, off, none⟩) n cap (zs.map (Value.int .i32)) rfl (by simp [HL.out]) (reads_src (HR.out.keep HB.out)) (ints_oneCell _ _) (by simp only [maxLen]; omega) (by omega) (Nat.le_refl _) ?_; intro v1 w1 q1 g1; obtain ⟨e1, e2, e3, e4⟩ := appended1 HX.out o1 HS.out q1 g1; obtain ⟨a1, cp1, rfl⟩ := ownShape e4; have HO1 := Lib.hid e4; have HX1 := Lib.hid e2; have HB1 := Lib.hid e3; have HC1 := Lib.hid (((HB.out.trans (e3.mono HB.out.size)).cell (p := ⟨b, off + n, none⟩) HCY.out.1).trans HCY.out.2); clear q1 g1 e1 e2 e3 e4 o0 o1)
  have cy := HC1.out
  have e1 : IntKind.i64.wrap ((n : Int) + 1 - 1) = n := by rw [IntKind.wrap_i64]; omega
  have e2 : IntKind.i64.wrap (n : Int) = n := by rw [IntKind.wrap_i64]; omega
  have l1 : (n : Int) < (n : Int) + 1 := by omega
  go_still_tail 9, (by kernel_rfl)
  clear cy e1 e2 l1
  have HO2 := Lib.hid HO1.out.drew
  have HX2 := Lib.hid (show RBox w1.drew (w.heap.size + 1) 0 0 from HX1.out)
  have HB2 := Lib.hid HB1.out.drew
  clear HO1 HX1 HB1 HC1
  change wpList _ _ _ _ _ w1.drew
  generalize w1.drew = w2 at *
  have c0 := HX2.out.c0
  have c1 := HX2.out.c1
  have f := HX2.out.f
  have r := HX2.out.set2 2 y
  have r0 := r.c0
  have r1 := r.c1
  clear r
  go_wp2
  exact bodyPost_ret (v := .tuple #[.slice a1 n cp1, .agg #[.int .u8 2, .int .i32 y]]) (by simp [results, Tryz.results46, go_sem, r0, r1]) rfl (told_new (ys := zs) (by simpa [HL.out] using HO2.out) HS.out HB.out HB2.out)

/-- Whatever the operation is. -/
theorem refDo (most k x : Int) (hr : Reads .i32 w ao n zs) (hc : n ≤ cap) (hn : n ≤ 1000) :
    Calls Tryz.prog 46 #[.int .i64 most, .slice ao n cap, .agg #[.int .u8 k, .int .i32 x]] w (RefTold w ao zs (stkL (mostOf most) zs k x) (stkC (mostOf most) zs k) (stkV zs k)) := by
  have hl := hr.1
  by_cases e1 : k = 1
  · subst e1
    by_cases hf : (n : Int) < mostOf most
    · have := refPush most x hr hc hn hf
      simpa [stkC, stkV, stkL, hl, hf] using this
    · have := refFull most x hr hc hn (by omega)
      simpa [stkC, stkV, stkL, hl, hf] using this
  · by_cases e2 : k = 2
    · subst e2
      rcases List.eq_nil_or_concat zs with e | ⟨ys, y, e⟩
      · subst e
        have := refNone most x hr hc hn (by simpa using hl.symm)
        simpa [stkC, stkV, stkL] using this
      · rw [List.concat_eq_append] at e
        subst e
        obtain ⟨m, rfl⟩ : ∃ m, n = m + 1 := ⟨n - 1, by simp at hl; omega⟩
        have := refPop most x y hr hc (by omega)
        simpa [stkC, stkV, stkL] using this
    · have := refBad most x hr hc hn k e1 e2
      simpa [stkC, stkV, stkL, e1, e2] using this
end

end Go.Proofs.YtniefplgijpckaaGreat
namespace Go.Proofs.YtniefplgijpckaaGreat
open Go.RowKit

/-- A list but for its first number. -/
theorem reads_tail {w : World} {b off n : Nat} {ys : List Int} {z : Int} (h : Reads .i32 w (some ⟨b, off, none⟩) (n + 1) (z :: ys)) : Reads .i32 w (some ⟨b, off + 1, none⟩) n ys := by
  have hl : ys.length = n := by have := h.1; simpa using this
  refine ⟨hl, fun hp => ?_⟩
  obtain ⟨b', off', e, bl, hc⟩ := h.2 (by omega)
  simp only [Option.some.injEq, Addr.mk.injEq, and_true] at e
  obtain ⟨rfl, rfl⟩ := e
  refine ⟨b, off + 1, rfl, bl, fun i hi => ?_⟩
  rw [show off + 1 + i = off + (i + 1) by omega, hc (i + 1) (by omega)]
  simp [List.getD]
theorem reads_some {w : World} {ao : Option Addr} {n : Nat} {zs : List Int} (h : Reads .i32 w ao (n + 1) zs) : ∃ b off, ao = some ⟨b, off, none⟩ := by
  obtain ⟨b, off, e, _⟩ := h.2 (by omega)
  exact ⟨b, off, e⟩

section
variable {w W w1 : World} {ao : Option Addr} {n cap : Nat} {zs : List Int}

/-- What stands behind an append of one to nothing. -/
theorem appendedA {v : Value} {Z : List Value} {o : Obj} (b0 : RBox W (w.heap.size + 1) 0 0) (q : w1.ownsRow W.heap.size 21 1 v (0 + 1) ([] ++ Z)) (g : (W.alloc o).grownBy w1 (Value.ownBlock (.slice none 0 0))) :
    RBox w1 (w.heap.size + 1) 0 0 ∧ Below W.heap.size W w1 ∧ w1.ownsRow W.heap.size 21 1 v 1 Z := by
  have hb : Below W.heap.size W w1 := ((Below.refl _ W).alloc (Nat.le_refl _) o).grown g (by simp) (by simp [Value.ownBlock])
  rw [Nat.zero_add, List.nil_append] at q
  exact ⟨(hb.block _ b0.lt).trans b0, hb, q⟩
/-- And behind a list that follows it. -/
theorem appendedB {v : Value} {m : Nat} {Z : List Value} {w2 : World} (b0 : RBox w1 (w.heap.size + 1) 0 0) (hs : W.heap.size = w.heap.size + 1 + 1) (hb : Below W.heap.size W w1) (q : w1.ownsRow W.heap.size 21 1 v m Z) (g : w1.grownBy w2 v.ownBlock) :
    RBox w2 (w.heap.size + 1) 0 0 ∧ Below W.heap.size W w2 := by
  have hb2 : Below W.heap.size w1 w2 := (Below.refl _ w1).grown g hb.size (fun k e => (q.lt k e).1)
  exact ⟨(hb2.block _ (by omega)).trans b0, hb.trans hb2⟩

set_option maxRecDepth 100000 in
set_option maxHeartbeats 3200000 in
theorem ref5Full1 (most x : Int) (hr : Reads .i32 w ao n zs) (hc : n ≤ cap) (_ : n ≤ 1000) (hf : mostOf most ≤ n) :
    Calls Tryz.prog 47 #[.int .i64 most, .slice ao n cap, .agg #[.int .u8 1, .int .i32 x]] w (RefTold w ao zs zs 3 0) := by
  have HR := Lib.hid hr
  clear hr
  go_enter Tryz.func47, Tryz.ntmps47
  go_upto_region 1 with (fail)
  generalize hW : (w.alloc (.cells #[.int .u8 1, .int .i32 x] 49)).alloc (.cells #[.int .u8 0, .int .i32 0] 53) = W
  obtain ⟨o0, o1, b0, hb, hs⟩ := begunRef w _ _ W hW
  have c0 := b0.c0
  have c1 := b0.c1
  have f := b0.f
  have HB := Lib.hid hb
  have HS := Lib.hid hs
  have HX := Lib.hid b0
  clear hW hb hs b0
  have r := HX.out.set2 3 0
  have r0 := r.c0
  have r1 := r.c1
  clear r
  have M := refMost most W
  go_wp2_with (go_at_call 49; refine M.mono ?_; rintro e w' ⟨rfl, rfl⟩)
  exact bodyPost_ret (v := .tuple #[.slice ao n cap, .agg #[.int .u8 3, .int .i32 0]]) (by simp [results, Tryz.results47, go_sem, r0, r1]) rfl (told_old HR.out hc HB.out)

set_option maxRecDepth 100000 in
set_option maxHeartbeats 3200000 in
theorem ref5Full2 (most x : Int) (hr : Reads .i32 w ao n zs) (hc : n ≤ cap) (_ : n ≤ 1000) (hf : mostOf most ≤ n) :
    Calls Tryz.prog 47 #[.int .i64 most, .slice ao n cap, .agg #[.int .u8 2, .int .i32 x]] w (RefTold w ao zs zs 3 0) := by
  have HR := Lib.hid hr
  clear hr
  go_enter Tryz.func47, Tryz.ntmps47
  go_upto_region 1 with (fail)
  generalize hW : (w.alloc (.cells #[.int .u8 2, .int .i32 x] 49)).alloc (.cells #[.int .u8 0, .int .i32 0] 53) = W
  obtain ⟨o0, o1, b0, hb, hs⟩ := begunRef w _ _ W hW
  have c0 := b0.c0
  have c1 := b0.c1
  have f := b0.f
  have HB := Lib.hid hb
  have HS := Lib.hid hs
  have HX := Lib.hid b0
  clear hW hb hs b0
  have r := HX.out.set2 3 0
  have r0 := r.c0
  have r1 := r.c1
  clear r
  have M := refMost most W
  go_wp2_with (go_at_call 49; refine M.mono ?_; rintro e w' ⟨rfl, rfl⟩)
  exact bodyPost_ret (v := .tuple #[.slice ao n cap, .agg #[.int .u8 3, .int .i32 0]]) (by simp [results, Tryz.results47, go_sem, r0, r1]) rfl (told_old HR.out hc HB.out)

set_option maxRecDepth 100000 in
set_option maxHeartbeats 3200000 in
theorem ref5None3 (most x : Int) (hr : Reads .i32 w ao n zs) (hc : n ≤ cap) (h0 : n = 0) :
    Calls Tryz.prog 47 #[.int .i64 most, .slice ao n cap, .agg #[.int .u8 3, .int .i32 x]] w (RefTold w ao zs zs 4 0) := by
  have HR := Lib.hid hr
  clear hr
  have h1 : ¬ 0 < n := by omega
  subst h0
  clear h1
  go_enter Tryz.func47, Tryz.ntmps47
  go_upto_region 1 with (fail)
  generalize hW : (w.alloc (.cells #[.int .u8 3, .int .i32 x] 49)).alloc (.cells #[.int .u8 0, .int .i32 0] 53) = W
  obtain ⟨o0, o1, b0, hb, hs⟩ := begunRef w _ _ W hW
  have c0 := b0.c0
  have c1 := b0.c1
  have f := b0.f
  have HB := Lib.hid hb
  have HS := Lib.hid hs
  have HX := Lib.hid b0
  clear hW hb hs b0
  have r := HX.out.set2 4 0
  have r0 := r.c0
  have r1 := r.c1
  clear r
  have M := refMost most W
  go_wp2_with (go_at_call 49; refine M.mono ?_; rintro e w' ⟨rfl, rfl⟩)
  exact bodyPost_ret (v := .tuple #[.slice ao 0 cap, .agg #[.int .u8 4, .int .i32 0]]) (by simp [results, Tryz.results47, go_sem, r0, r1]) rfl (told_old HR.out hc HB.out)

set_option maxRecDepth 100000 in
set_option maxHeartbeats 3200000 in
theorem ref5None4 (most x : Int) (hr : Reads .i32 w ao n zs) (hc : n ≤ cap) (h0 : n = 0) :
    Calls Tryz.prog 47 #[.int .i64 most, .slice ao n cap, .agg #[.int .u8 4, .int .i32 x]] w (RefTold w ao zs zs 4 0) := by
  have HR := Lib.hid hr
  clear hr
  have h1 : ¬ 0 < n := by omega
  subst h0
  clear h1
  go_enter Tryz.func47, Tryz.ntmps47
  go_upto_region 1 with (fail)
  generalize hW : (w.alloc (.cells #[.int .u8 4, .int .i32 x] 49)).alloc (.cells #[.int .u8 0, .int .i32 0] 53) = W
  obtain ⟨o0, o1, b0, hb, hs⟩ := begunRef w _ _ W hW
  have c0 := b0.c0
  have c1 := b0.c1
  have f := b0.f
  have HB := Lib.hid hb
  have HS := Lib.hid hs
  have HX := Lib.hid b0
  clear hW hb hs b0
  have r := HX.out.set2 4 0
  have r0 := r.c0
  have r1 := r.c1
  clear r
  have M := refMost most W
  go_wp2_with (go_at_call 49; refine M.mono ?_; rintro e w' ⟨rfl, rfl⟩)
  exact bodyPost_ret (v := .tuple #[.slice ao 0 cap, .agg #[.int .u8 4, .int .i32 0]]) (by simp [results, Tryz.results47, go_sem, r0, r1]) rfl (told_old HR.out hc HB.out)

set_option maxRecDepth 100000 in
set_option maxHeartbeats 3200000 in
theorem ref5Bad0 (most x : Int) (hr : Reads .i32 w ao n zs) (hc : n ≤ cap) (_ : n ≤ 1000) :
    Calls Tryz.prog 47 #[.int .i64 most, .slice ao n cap, .agg #[.int .u8 0, .int .i32 x]] w (RefTold w ao zs zs 5 0) := by
  have HR := Lib.hid hr
  clear hr
  go_enter Tryz.func47, Tryz.ntmps47
  go_upto_region 1 with (fail)
  generalize hW : (w.alloc (.cells #[.int .u8 0, .int .i32 x] 49)).alloc (.cells #[.int .u8 0, .int .i32 0] 53) = W
  obtain ⟨o0, o1, b0, hb, hs⟩ := begunRef w _ _ W hW
  have c0 := b0.c0
  have c1 := b0.c1
  have f := b0.f
  have HB := Lib.hid hb
  have HS := Lib.hid hs
  have HX := Lib.hid b0
  clear hW hb hs b0
  have r := HX.out.set2 5 0
  have r0 := r.c0
  have r1 := r.c1
  clear r
  have M := refMost most W
  go_wp2_with (go_at_call 49; refine M.mono ?_; rintro e w' ⟨rfl, rfl⟩)
  exact bodyPost_ret (v := .tuple #[.slice ao n cap, .agg #[.int .u8 5, .int .i32 0]]) (by simp [results, Tryz.results47, go_sem, r0, r1]) rfl (told_old HR.out hc HB.out)

set_option maxRecDepth 100000 in
set_option maxHeartbeats 3200000 in
theorem ref5Bad5 (most x : Int) (hr : Reads .i32 w ao n zs) (hc : n ≤ cap) (_ : n ≤ 1000) (k : Int) (k5 : 4 < k) :
    Calls Tryz.prog 47 #[.int .i64 most, .slice ao n cap, .agg #[.int .u8 k, .int .i32 x]] w (RefTold w ao zs zs 5 0) := by
  have HR := Lib.hid hr
  clear hr
  have k1 : ¬ k < 1 := by omega
  go_enter Tryz.func47, Tryz.ntmps47
  go_upto_region 1 with (fail)
  generalize hW : (w.alloc (.cells #[.int .u8 k, .int .i32 x] 49)).alloc (.cells #[.int .u8 0, .int .i32 0] 53) = W
  obtain ⟨o0, o1, b0, hb, hs⟩ := begunRef w _ _ W hW
  have c0 := b0.c0
  have c1 := b0.c1
  have f := b0.f
  have HB := Lib.hid hb
  have HS := Lib.hid hs
  have HX := Lib.hid b0
  clear hW hb hs b0
  have r := HX.out.set2 5 0
  have r0 := r.c0
  have r1 := r.c1
  clear r
  have M := refMost most W
  go_wp2_with (go_at_call 49; refine M.mono ?_; rintro e w' ⟨rfl, rfl⟩)
  exact bodyPost_ret (v := .tuple #[.slice ao n cap, .agg #[.int .u8 5, .int .i32 0]]) (by simp [results, Tryz.results47, go_sem, r0, r1]) rfl (told_old HR.out hc HB.out)

set_option maxRecDepth 100000 in
set_option maxHeartbeats 3200000 in
theorem ref5PushL (most x : Int) (hr : Reads .i32 w ao n zs) (_ : n ≤ cap) (hn : n ≤ 1000) (hf : (n : Int) < mostOf most) :
    Calls Tryz.prog 47 #[.int .i64 most, .slice ao n cap, .agg #[.int .u8 1, .int .i32 x]] w (RefTold w ao zs (x :: zs) 1 0) := by
  obtain ⟨i0, hi, hz0, hz1, hz2⟩ := info_parts infoI32
  have HR := Lib.hid hr
  have HL := Lib.hid hr.1
  clear hr
  go_enter Tryz.func47, Tryz.ntmps47
  go_upto_region 1 with (fail)
  generalize hW : (w.alloc (.cells #[.int .u8 1, .int .i32 x] 49)).alloc (.cells #[.int .u8 0, .int .i32 0] 53) = W
  obtain ⟨o0, o1, b0, hb, hs⟩ := begunRef w _ _ W hW
  have c0 := b0.c0
  have c1 := b0.c1
  have f := b0.f
  have HB := Lib.hid hb
  have HS := Lib.hid hs
  have HX := Lib.hid b0
  clear hW hb hs b0
  clear c0 c1 f
  have M := refMost most W
  go_upto_region 10 with (go_at_call 49; refine M.mono ?_; rintro e w' ⟨rfl, rfl⟩)
  clear M
  go_wp2_with (first | (at_builtin; refine wpList_append_own _ rfl (.tmp 50) (.tmp 53) 32 rfl W.heap.size 21 i0 _ 1 4 Tryz.underlying32 hi hz0 hz1 hz2 rfl (by decide) (.slice none 0 0) 0 [] rfl (World.ownsRow_nil _ _ _ _) ⟨_, 0, none⟩ 1 1 [.int .i32 x] rfl rfl (by intro j u hu; cases j <;> simp at hu; subst hu; go_simp) (by intro u hu; simp at hu; subst hu; rfl) (by simp only [maxLen]; omega) (by omega) (by simp) ?_; intro v1 w1 q1 g1 _; obtain ⟨e2, e3, e4⟩ := appendedA HX.out q1 g1; obtain ⟨a1, cp1, rfl⟩ := ownShape e4; have HO1 := Lib.hid e4; have HX1 := Lib.hid e2; have HB1 := Lib.hid e3; clear q1 g1 e2 e3 e4 o0 o1) | (at_builtin; refine wpList_append_src _ rfl (.tmp 55) (.tmp 56) 32 rfl W.heap.size 21 i0 _ 1 4 Tryz.underlying32 hi hz0 hz1 hz2 rfl (by decide) _ 1 [.int .i32 x] rfl HO1.out ao n cap (zs.map (Value.int .i32)) rfl (by simp [HR.out.1]) (reads_src ((HR.out.keep HB.out).keep HB1.out)) (ints_oneCell _ _) (by simp only [maxLen]; omega) (by omega) HB1.out.size ?_; intro v2 w2 q2 g2; obtain ⟨e2, e3⟩ := appendedB HX1.out HS.out HB1.out HO1.out g2; obtain ⟨a2, cp2, rfl⟩ := ownShape q2; have HO2 := Lib.hid q2; have HX2 := Lib.hid e2; have HB2 := Lib.hid e3; have c0 := e2.c0; have c1 := e2.c1; have f := e2.f; clear q2 g2 e2 e3))
  have r := HX2.out.set2 1 0
  have r0 := r.c0
  have r1 := r.c1
  exact bodyPost_ret (v := .tuple #[.slice a2 (1 + n) cp2, .agg #[.int .u8 1, .int .i32 0]]) (by simp [results, Tryz.results47, go_sem, r0, r1]) rfl (told_new (ys := x :: zs) (by simpa [HL.out, Nat.add_comm] using HO2.out) HS.out HB.out HB2.out)

set_option maxRecDepth 100000 in
set_option maxHeartbeats 3200000 in
theorem ref5PushR (most x : Int) (hr : Reads .i32 w ao n zs) (_ : n ≤ cap) (hn : n ≤ 1000) (hf : (n : Int) < mostOf most) :
    Calls Tryz.prog 47 #[.int .i64 most, .slice ao n cap, .agg #[.int .u8 2, .int .i32 x]] w (RefTold w ao zs (zs ++ [x]) 1 0) := by
  obtain ⟨i0, hi, hz0, hz1, hz2⟩ := info_parts infoI32
  have HR := Lib.hid hr
  have HL := Lib.hid hr.1
  clear hr
  go_enter Tryz.func47, Tryz.ntmps47
  go_upto_region 1 with (fail)
  generalize hW : (w.alloc (.cells #[.int .u8 2, .int .i32 x] 49)).alloc (.cells #[.int .u8 0, .int .i32 0] 53) = W
  obtain ⟨o0, o1, b0, hb, hs⟩ := begunRef w _ _ W hW
  have c0 := b0.c0
  have c1 := b0.c1
  have f := b0.f
  have HB := Lib.hid hb
  have HS := Lib.hid hs
  have HX := Lib.hid b0
  clear hW hb hs b0
  clear c0 c1 f
  have M := refMost most W
  go_upto_region 14 with (go_at_call 49; refine M.mono ?_; rintro e w' ⟨rfl, rfl⟩)
  clear M
  go_wp2_with (first | (at_builtin; refine wpList_append_src _ rfl (.tmp 64) (.tmp 65) 32 rfl W.heap.size 21 i0 _ 1 4 Tryz.underlying32 hi hz0 hz1 hz2 rfl (by decide) (.slice none 0 0) 0 [] rfl (World.ownsRow_nil _ _ _ _) ao n cap (zs.map (Value.int .i32)) rfl (by simp [HR.out.1]) (reads_src (HR.out.keep HB.out)) (ints_oneCell _ _) (by simp only [maxLen]; omega) (by omega) (Nat.le_refl _) ?_; intro v1 w1 q1 g1; obtain ⟨e1, e2, e3, e4⟩ := appended1 HX.out o1 HS.out q1 g1; obtain ⟨a1, cp1, rfl⟩ := ownShape e4; have HO1 := Lib.hid e4; have HX1 := Lib.hid e2; have HB1 := Lib.hid e3; clear q1 g1 e2 e3 e4 o0 o1) | (at_builtin; refine wpList_append_own _ rfl (.tmp 67) (.tmp 70) 32 rfl W.heap.size 21 i0 _ 1 4 Tryz.underlying32 hi hz0 hz1 hz2 rfl (by decide) _ _ _ rfl (HO1.out.alloc _) ⟨_, 0, none⟩ 1 1 [.int .i32 x] rfl rfl (by intro j u hu; cases j <;> simp at hu; subst hu; go_simp) (by intro u hu; simp at hu; subst hu; rfl) (by simp only [maxLen]; omega) (by omega) (Nat.le_trans HB1.out.size (by simp)) ?_; intro v2 w2 q2 g2 _; obtain ⟨e2, e3⟩ := appended2 HX1.out HS.out HB1.out HO1.out g2; obtain ⟨a2, cp2, rfl⟩ := ownShape q2; have HO2 := Lib.hid q2; have HX2 := Lib.hid e2; have HB2 := Lib.hid e3; have c0 := e2.c0; have c1 := e2.c1; have f := e2.f; clear q2 g2 e2 e3 e1))
  have r := HX2.out.set2 1 0
  have r0 := r.c0
  have r1 := r.c1
  exact bodyPost_ret (v := .tuple #[.slice a2 (n + 1) cp2, .agg #[.int .u8 1, .int .i32 0]]) (by simp [results, Tryz.results47, go_sem, r0, r1]) rfl (told_new (ys := zs ++ [x]) (by simpa [HL.out] using HO2.out) HS.out HB.out HB2.out)

set_option maxRecDepth 100000 in
set_option maxHeartbeats 3200000 in
theorem ref5PopL (most x y : Int) (hr : Reads .i32 w ao (n + 1) (y :: zs)) (hc : n + 1 ≤ cap) (h1 : ¬ cap = 1) (hn : n ≤ 1000) :
    Calls Tryz.prog 47 #[.int .i64 most, .slice ao (n + 1) cap, .agg #[.int .u8 3, .int .i32 x]] w (RefTold w ao (y :: zs) zs 2 y) := by
  obtain ⟨i0, hi, hz0, hz1, hz2⟩ := info_parts infoI32
  obtain ⟨b, off, rfl⟩ := reads_some hr
  have HL := Lib.hid (show zs.length = n by have := hr.1; simpa using this)
  have HR := Lib.hid (reads_tail hr)
  obtain ⟨b', off', e, bl, hcs⟩ := hr.2 (by omega)
  simp only [Option.some.injEq, Addr.mk.injEq, and_true] at e
  obtain ⟨rfl, rfl⟩ := e
  have cy : w.cell? ⟨b, off, none⟩ = some (.int .i32 y) := hcs 0 (by omega)
  clear hr hcs
  have i1 : 1 ≤ cap := by omega
  have i2 : (1 : Int) ≤ cap := by omega
  go_enter Tryz.func47, Tryz.ntmps47
  go_upto_region 1 with (fail)
  generalize hW : (w.alloc (.cells #[.int .u8 3, .int .i32 x] 49)).alloc (.cells #[.int .u8 0, .int .i32 0] 53) = W
  obtain ⟨o0, o1, b0, hb, hs⟩ := begunRef w _ _ W hW
  have c0 := b0.c0
  have c1 := b0.c1
  have f := b0.f
  have HB := Lib.hid hb
  have HS := Lib.hid hs
  have HX := Lib.hid b0
  clear hW hb hs b0
  clear c0 c1 f
  have HCY := Lib.hid (And.intro bl cy)
  have M := refMost most W
  clear cy
  go_upto_region 19 with (first | (go_at_call 49; refine M.mono ?_; rintro e w' ⟨rfl, rfl⟩) | (at_builtin; refine wpList_append_src _ rfl (.tmp 78) (.tmp 80) 32 rfl W.heap.size 21 i0 _ 1 4 Tryz.underlying32 hi hz0 hz1 hz2 rfl (by decide) (.slice none 0 0) 0 [] rfl (World.ownsRow_nil _ _ _ _) (some ⟨b, off + 1, none⟩) n (cap - 1) (zs.map (Value.int .i32)) rfl (by simp [HL.out]) (reads_src (HR.out.keep HB.out)) (ints_oneCell _ _) (by simp only [maxLen]; omega) (by omega) (Nat.le_refl _) ?_; intro v1 w1 q1 g1; obtain ⟨e1, e2, e3, e4⟩ := appended1 HX.out o1 HS.out q1 g1; obtain ⟨a1, cp1, rfl⟩ := ownShape e4; have HO1 := Lib.hid e4; have HX1 := Lib.hid e2; have HB1 := Lib.hid e3; have HC1 := Lib.hid (((HB.out.trans (e3.mono HB.out.size)).cell (p := ⟨b, off, none⟩) HCY.out.1).trans HCY.out.2); clear q1 g1 e1 e2 e3 e4 o0 o1))
  have cy := HC1.out
  go_still_tail 6, (by kernel_rfl)
  clear cy
  have HO2 := Lib.hid HO1.out.drew
  have HX2 := Lib.hid (show RBox w1.drew (w.heap.size + 1) 0 0 from HX1.out)
  have HB2 := Lib.hid HB1.out.drew
  clear HO1 HX1 HB1 HC1
  change wpList _ _ _ _ _ w1.drew
  generalize w1.drew = w2 at *
  have c0 := HX2.out.c0
  have c1 := HX2.out.c1
  have f := HX2.out.f
  have r := HX2.out.set2 2 y
  have r0 := r.c0
  have r1 := r.c1
  clear r
  go_wp2
  exact bodyPost_ret (v := .tuple #[.slice a1 n cp1, .agg #[.int .u8 2, .int .i32 y]]) (by simp [results, Tryz.results47, go_sem, r0, r1]) rfl (told_new (ys := zs) (by simpa [HL.out] using HO2.out) HS.out HB.out HB2.out)

set_option maxRecDepth 100000 in
set_option maxHeartbeats 3200000 in
theorem ref5PopR (most x y : Int) (hr : Reads .i32 w ao (n + 1) (zs ++ [y])) (hc : n + 1 ≤ cap) (hn : n ≤ 1000) :
    Calls Tryz.prog 47 #[.int .i64 most, .slice ao (n + 1) cap, .agg #[.int .u8 4, .int .i32 x]] w (RefTold w ao (zs ++ [y]) zs 2 y) := by
  obtain ⟨i0, hi, hz0, hz1, hz2⟩ := info_parts infoI32
  have HL := Lib.hid (show zs.length = n by have := hr.1; simpa using this)
  obtain ⟨b, off, rfl⟩ := reads_some hr
  have HR := Lib.hid (reads_front hr)
  obtain ⟨b', off', e, bl, hcs⟩ := hr.2 (by omega)
  simp only [Option.some.injEq, Addr.mk.injEq, and_true] at e
  obtain ⟨rfl, rfl⟩ := e
  have cy := hcs n (by omega)
  rw [show (zs ++ [y]).getD n 0 = y by rw [← HL.out]; simp [List.getD]] at cy
  clear hr hcs
  have e1 : IntKind.i64.wrap (((n + 1 : Nat) : Int) - 1) = (n : Int) := by rw [IntKind.wrap_i64]; omega
  have e2 : ((n + 1 : Nat) : Int) - 1 = (n : Int) := by omega
  clear e1 e2
  go_enter Tryz.func47, Tryz.ntmps47
  go_upto_region 1 with (fail)
  generalize hW : (w.alloc (.cells #[.int .u8 4, .int .i32 x] 49)).alloc (.cells #[.int .u8 0, .int .i32 0] 53) = W
  obtain ⟨o0, o1, b0, hb, hs⟩ := begunRef w _ _ W hW
  have c0 := b0.c0
  have c1 := b0.c1
  have f := b0.f
  have HB := Lib.hid hb
  have HS := Lib.hid hs
  have HX := Lib.hid b0
  clear hW hb hs b0
  clear c0 c1 f
  have HCY := Lib.hid (And.intro bl cy)
  have M := refMost most W
  clear cy
  go_upto_region 21 with (first | (go_at_call 49; refine M.mono ?_; rintro e w' ⟨rfl, rfl⟩) | (at_builtin; refine wpList_append_src _ rfl (.tmp 87) (.tmp 92) 32 rfl W.heap.size 21 i0 _ 1 4 Tryz.underlying32 hi hz0 hz1 hz2 rfl (by decide) (.slice none 0 0) 0 [] rfl (World.ownsRow_nil _ _ _ _) (some ⟨b, off, none⟩) n cap (zs.map (Value.int .i32)) rfl (by simp [HL.out]) (reads_src (HR.out.keep HB.out)) (ints_oneCell _ _) (by simp only [maxLen]; omega) (by omega) (Nat.le_refl _) ?_; intro v1 w1 q1 g1; obtain ⟨e1, e2, e3, e4⟩ := appended1 HX.out o1 HS.out q1 g1; obtain ⟨a1, cp1, rfl⟩ := ownShape e4; have HO1 := Lib.hid e4; have HX1 := Lib.hid e2; have HB1 := Lib.hid e3; have HC1 := Lib.hid (((HB.out.trans (e3.mono HB.out.size)).cell (p := ⟨b, off + n, none⟩) HCY.out.1).trans HCY.out.2); clear q1 g1 e1 e2 e3 e4 o0 o1))
  have cy := HC1.out
  have e1 : IntKind.i64.wrap ((n : Int) + 1 - 1) = n := by rw [IntKind.wrap_i64]; omega
  have e2 : IntKind.i64.wrap (n : Int) = n := by rw [IntKind.wrap_i64]; omega
  have l1 : (n : Int) < (n : Int) + 1 := by omega
  go_still_tail 9, (by kernel_rfl)
  clear cy
  have HO2 := Lib.hid HO1.out.drew
  have HX2 := Lib.hid (show RBox w1.drew (w.heap.size + 1) 0 0 from HX1.out)
  have HB2 := Lib.hid HB1.out.drew
  clear HO1 HX1 HB1 HC1
  change wpList _ _ _ _ _ w1.drew
  generalize w1.drew = w2 at *
  have c0 := HX2.out.c0
  have c1 := HX2.out.c1
  have f := HX2.out.f
  have r := HX2.out.set2 2 y
  have r0 := r.c0
  have r1 := r.c1
  clear r
  go_wp2
  exact bodyPost_ret (v := .tuple #[.slice a1 n cp1, .agg #[.int .u8 2, .int .i32 y]]) (by simp [results, Tryz.results47, go_sem, r0, r1]) rfl (told_new (ys := zs) (by simpa [HL.out] using HO2.out) HS.out HB.out HB2.out)

set_option maxRecDepth 100000 in
set_option maxHeartbeats 3200000 in
theorem ref5PopL1 (most x y : Int) (hr : Reads .i32 w ao (n + 1) (y :: zs)) (hc : n + 1 ≤ cap) (h1 : cap = 1) (hn : n ≤ 1000) :
    Calls Tryz.prog 47 #[.int .i64 most, .slice ao (n + 1) cap, .agg #[.int .u8 3, .int .i32 x]] w (RefTold w ao (y :: zs) zs 2 y) := by
  obtain ⟨i0, hi, hz0, hz1, hz2⟩ := info_parts infoI32
  obtain ⟨b, off, rfl⟩ := reads_some hr
  have HL := Lib.hid (show zs.length = 0 by have := hr.1; simp at this; omega)
  have HR := Lib.hid (show Reads .i32 w (some ⟨b, off, none⟩) 0 zs from ⟨HL.out, fun h => absurd h (Nat.lt_irrefl _)⟩)
  obtain ⟨b', off', e, bl, hcs⟩ := hr.2 (by omega)
  simp only [Option.some.injEq, Addr.mk.injEq, and_true] at e
  obtain ⟨rfl, rfl⟩ := e
  have cy : w.cell? ⟨b, off, none⟩ = some (.int .i32 y) := hcs 0 (by omega)
  clear hr hcs
  obtain rfl : n = 0 := by omega
  subst h1
  clear hn hc
  go_enter Tryz.func47, Tryz.ntmps47
  go_upto_region 1 with (fail)
  generalize hW : (w.alloc (.cells #[.int .u8 3, .int .i32 x] 49)).alloc (.cells #[.int .u8 0, .int .i32 0] 53) = W
  obtain ⟨o0, o1, b0, hb, hs⟩ := begunRef w _ _ W hW
  have c0 := b0.c0
  have c1 := b0.c1
  have f := b0.f
  have HB := Lib.hid hb
  have HS := Lib.hid hs
  have HX := Lib.hid b0
  clear hW hb hs b0
  clear c0 c1 f
  have HCY := Lib.hid (And.intro bl cy)
  have M := refMost most W
  clear cy
  go_upto_region 19 with (first | (go_at_call 49; refine M.mono ?_; rintro e w' ⟨rfl, rfl⟩) | (at_builtin; refine wpList_append_src _ rfl (.tmp 78) (.tmp 80) 32 rfl W.heap.size 21 i0 _ 1 4 Tryz.underlying32 hi hz0 hz1 hz2 rfl (by decide) (.slice none 0 0) 0 [] rfl (World.ownsRow_nil _ _ _ _) (some ⟨b, off, none⟩) 0 0 (zs.map (Value.int .i32)) rfl (by simp [HL.out]) (reads_src (HR.out.keep HB.out)) (ints_oneCell _ _) (by simp only [maxLen]; omega) (by omega) (Nat.le_refl _) ?_; intro v1 w1 q1 g1; obtain ⟨e1, e2, e3, e4⟩ := appended1 HX.out o1 HS.out q1 g1; obtain ⟨a1, cp1, rfl⟩ := ownShape e4; have HO1 := Lib.hid e4; have HX1 := Lib.hid e2; have HB1 := Lib.hid e3; have HC1 := Lib.hid (((HB.out.trans (e3.mono HB.out.size)).cell (p := ⟨b, off, none⟩) HCY.out.1).trans HCY.out.2); clear q1 g1 e1 e2 e3 e4 o0 o1))
  have cy := HC1.out
  go_still_tail 6, (by kernel_rfl)
  clear cy
  have HO2 := Lib.hid HO1.out.drew
  have HX2 := Lib.hid (show RBox w1.drew (w.heap.size + 1) 0 0 from HX1.out)
  have HB2 := Lib.hid HB1.out.drew
  clear HO1 HX1 HB1 HC1
  change wpList _ _ _ _ _ w1.drew
  generalize w1.drew = w2 at *
  have c0 := HX2.out.c0
  have c1 := HX2.out.c1
  have f := HX2.out.f
  have r := HX2.out.set2 2 y
  have r0 := r.c0
  have r1 := r.c1
  clear r
  go_wp2
  exact bodyPost_ret (v := .tuple #[.slice a1 0 cp1, .agg #[.int .u8 2, .int .i32 y]]) (by simp [results, Tryz.results47, go_sem, r0, r1]) rfl (told_new (ys := zs) (by simpa [HL.out] using HO2.out) HS.out HB.out HB2.out)

/-- Whatever the operation is. -/
theorem ref5Do (most k x : Int) (hr : Reads .i32 w ao n zs) (hc : n ≤ cap) (hn : n ≤ 1000) (k0 : 0 ≤ k) :
    Calls Tryz.prog 47 #[.int .i64 most, .slice ao n cap, .agg #[.int .u8 k, .int .i32 x]] w (RefTold w ao zs (dqL (mostOf most) zs k x) (dqC (mostOf most) zs k) (dqV zs k)) := by
  have hl := hr.1
  by_cases e1 : k = 1
  · subst e1
    by_cases hf : (n : Int) < mostOf most
    · have := ref5PushL most x hr hc hn hf
      simpa [dqC, dqV, dqL, hl, hf] using this
    · have := ref5Full1 most x hr hc hn (by omega)
      simpa [dqC, dqV, dqL, hl, hf] using this
  by_cases e2 : k = 2
  · subst e2
    by_cases hf : (n : Int) < mostOf most
    · have := ref5PushR most x hr hc hn hf
      simpa [dqC, dqV, dqL, hl, hf] using this
    · have := ref5Full2 most x hr hc hn (by omega)
      simpa [dqC, dqV, dqL, hl, hf] using this
  by_cases e3 : k = 3
  · subst e3
    cases zs with
    | nil =>
      have := ref5None3 most x hr hc (by simpa using hl.symm)
      simpa [dqC, dqV, dqL] using this
    | cons y ys =>
      obtain ⟨m, rfl⟩ : ∃ m, n = m + 1 := ⟨n - 1, by simp at hl; omega⟩
      by_cases h1 : cap = 1
      · have := ref5PopL1 most x y hr hc h1 (by omega)
        simpa [dqC, dqV, dqL] using this
      · have := ref5PopL most x y hr hc h1 (by omega)
        simpa [dqC, dqV, dqL] using this
  by_cases e4 : k = 4
  · subst e4
    rcases List.eq_nil_or_concat zs with e | ⟨ys, y, e⟩
    · subst e
      have := ref5None4 most x hr hc (by simpa using hl.symm)
      simpa [dqC, dqV, dqL] using this
    · rw [List.concat_eq_append] at e
      subst e
      obtain ⟨m, rfl⟩ : ∃ m, n = m + 1 := ⟨n - 1, by simp at hl; omega⟩
      have := ref5PopR most x y hr hc (by omega)
      simpa [dqC, dqV, dqL] using this
  by_cases e0 : k = 0
  · subst e0
    have := ref5Bad0 most x hr hc hn
    simpa [dqC, dqV, dqL] using this
  · have := ref5Bad5 most x hr hc hn k (by omega)
    simpa [dqC, dqV, dqL, e1, e2, e3, e4] using this
end

end Go.Proofs.YtniefplgijpckaaGreat
namespace Go.Proofs.YtniefplgijpckaaGreat
open Go.RowKit Go.Lib

/-- How many stand ahead of the first one that is greater. -/
def fgt (x : Int) : List Int → Nat
  | [] => 0
  | y :: l => if x < y then 0 else fgt x l + 1
theorem fgt_le (x : Int) : ∀ l, fgt x l ≤ l.length
  | [] => Nat.le_refl _
  | y :: l => by unfold fgt; split <;> simp; exact fgt_le x l
theorem fgt_is (x : Int) : ∀ (l : List Int) (k : Nat), k ≤ l.length → (∀ j, j < k → l.getD j 0 ≤ x) → (k = l.length ∨ x < l.getD k 0) → fgt x l = k
  | [], k, hk, _, _ => by simp at hk; subst hk; rfl
  | y :: l, k, hk, h1, h2 => by
    unfold fgt
    cases k with
    | zero =>
      rcases h2 with h | h
      · simp at h
      · rw [if_pos (by simpa using h)]
    | succ k =>
      rw [if_neg (by have := h1 0 (by omega); simp at this; omega)]
      rw [fgt_is x l k (by simpa using hk) (fun j hj => by simpa using h1 (j + 1) (by omega)) (by rcases h2 with h | h; exact .inl (by simpa using h); exact .inr (by simpa using h))]

/-- What an operation makes of a heap's items. -/
def hpL (most : Int) (zs : List Int) (k x : Int) : List Int := if k = 1 then (if (zs.length : Int) < most then zs.take (fgt x zs) ++ x :: zs.drop (fgt x zs) else zs) else if k = 2 then zs.tail else zs
def hpC (most : Int) (zs : List Int) (k : Int) : Int := if k = 1 then (if (zs.length : Int) < most then 1 else 3) else if k = 2 then (if zs = [] then 4 else 2) else 5
def hpV (zs : List Int) (k : Int) : Int := if k = 2 then zs.headD 0 else 0
/-- Of any object. -/
def objL (obj most : Int) (zs : List Int) (k x : Int) : List Int := if obj = 1 then stkL most zs k x else if obj = 2 then dqL most zs k x else if obj = 3 then hpL most zs k x else zs
def objC (obj most : Int) (zs : List Int) (k : Int) : Int := if obj = 1 then stkC most zs k else if obj = 2 then dqC most zs k else if obj = 3 then hpC most zs k else 5
def objV (obj : Int) (zs : List Int) (k : Int) : Int := if obj = 1 then stkV zs k else if obj = 2 then dqV zs k else if obj = 3 then hpV zs k else 0

/-- What operations make of the items, and what they are told. -/
def runZ (obj most : Int) (zs : List Int) (os : List (Int × Int)) : List Int := os.foldl (fun l o => objL obj most l o.1 o.2) zs
def runT (obj most : Int) : List Int → List (Int × Int) → List (Int × Int)
  | _, [] => []
  | zs, o :: os => (objC obj most zs o.1, objV obj zs o.1) :: runT obj most (objL obj most zs o.1 o.2) os

theorem runZ_snoc (obj most : Int) (zs : List Int) (os : List (Int × Int)) (o : Int × Int) : runZ obj most zs (os ++ [o]) = objL obj most (runZ obj most zs os) o.1 o.2 := by simp [runZ]
theorem runT_snoc (obj most : Int) (o : Int × Int) : ∀ (os : List (Int × Int)) (zs : List Int), runT obj most zs (os ++ [o]) = runT obj most zs os ++ [(objC obj most (runZ obj most zs os) o.1, objV obj (runZ obj most zs os) o.1)]
  | [], zs => rfl
  | p :: os, zs => by
    show _ :: runT obj most (objL obj most zs p.1 p.2) (os ++ [o]) = _
    rw [runT_snoc obj most o os]
    rfl
theorem runT_length (obj most : Int) : ∀ (os : List (Int × Int)) (zs : List Int), (runT obj most zs os).length = os.length
  | [], _ => rfl
  | _ :: os, zs => by simp [runT, runT_length obj most os]

theorem objL_length (obj most : Int) (zs : List Int) (k x : Int) : (objL obj most zs k x).length ≤ zs.length ∨ ((zs.length : Int) < most ∧ (objL obj most zs k x).length = zs.length + 1) := by
  have hf := fgt_le x zs
  by_cases e1 : obj = 1
  · simp only [objL, e1, if_true, stkL]
    split
    · split
      · right; simp; assumption
      · left; omega
    · split
      · left; simp
      · left; omega
  · by_cases e2 : obj = 2
    · simp only [objL, e2, if_true, if_neg (show ¬ (2 : Int) = 1 by omega), dqL]
      split
      · split
        · right; simp; assumption
        · left; omega
      · split
        · split
          · right; simp; assumption
          · left; omega
        · split
          · left; simp
          · split
            · left; simp
            · left; omega
    · by_cases e3 : obj = 3
      · simp only [objL, e3, if_true, if_neg (show ¬ (3 : Int) = 1 by omega), if_neg (show ¬ (3 : Int) = 2 by omega), hpL]
        split
        · split
          · right; refine ⟨by assumption, ?_⟩; simp; omega
          · left; omega
        · split
          · left; simp
          · left; omega
      · left; simp only [objL, e1, e2, e3, if_false]; omega
theorem objL_le {obj most : Int} {zs : List Int} (h : zs.length ≤ 1000) (hm : most ≤ 1000) (k x : Int) : (objL obj most zs k x).length ≤ 1000 := by
  rcases objL_length obj most zs k x with h1 | h1 <;> omega
theorem runZ_le {obj most : Int} (hm : most ≤ 1000) : ∀ (os : List (Int × Int)) (zs : List Int), zs.length ≤ 1000 → (runZ obj most zs os).length ≤ 1000
  | [], _, h => h
  | o :: os, _, h => runZ_le hm os _ (objL_le h hm o.1 o.2)

section
variable {o : Int × Int}
theorem take_op8 (os : List (Int × Int)) (k : Nat) (h : k < os.length) (e : os.getD k (0, 0) = o) : os.take (k + 1) = os.take k ++ [o] := by
  rw [List.take_succ_eq_append_getElem h, ← e]; simp [List.getD, h]

end
section
variable {w : World} {ao : Option Addr} {n cap : Nat} {os : List (Int × Int)}
/-- Some operations, and all others. -/
theorem ops_take {k : Nat} (h : OpsAt w ao n os) (hk : k ≤ n) : OpsAt w ao k (os.take k) := by
  refine ⟨by rw [List.length_take, h.1, Nat.min_eq_left hk], fun hp => ?_⟩
  obtain ⟨b, off, e, bl, hc⟩ := h.2 (by omega)
  refine ⟨b, off, e, bl, fun i hi => ?_⟩
  have := hc i (by omega)
  simpa [List.getD, hi] using this
theorem ops_drop {b off k : Nat} (h : OpsAt w (some ⟨b, off, none⟩) n os) (hk : k < n) : OpsAt w (some ⟨b, off + k * 2, none⟩) (n - k) (os.drop k) := by
  refine ⟨by rw [List.length_drop, h.1], fun hp => ?_⟩
  obtain ⟨b', off', e, bl, hc⟩ := h.2 (by omega)
  simp only [Option.some.injEq, Addr.mk.injEq, and_true] at e
  obtain ⟨rfl, rfl⟩ := e
  refine ⟨b, off + k * 2, rfl, bl, fun i hi => ?_⟩
  have := hc (k + i) (by omega)
  rw [show off + k * 2 + i * 2 = off + (k + i) * 2 by omega]
  simpa [List.getD] using this
theorem ints_none (w : World) (A : Option Addr) : Reads .i32 w A 0 [] := ⟨rfl, fun h => by omega⟩
theorem ops_none (w : World) (A : Option Addr) : OpsAt w A 0 [] := ⟨rfl, fun h => by omega⟩
end
theorem runZ_append (obj m : Int) (zs : List Int) (a b : List (Int × Int)) : runZ obj m zs (a ++ b) = runZ obj m (runZ obj m zs a) b := by simp [runZ]
theorem runT_append (obj m : Int) (b : List (Int × Int)) : ∀ (a : List (Int × Int)) (zs : List Int), runT obj m zs (a ++ b) = runT obj m zs a ++ runT obj m (runZ obj m zs a) b
  | [], zs => rfl
  | o :: a, zs => by
    show _ :: runT obj m (objL obj m zs o.1 o.2) (a ++ b) = _
    rw [runT_append obj m b a]
    rfl

/-- The operations by their order. -/
def ordO (obj : Int) (os : List (Int × Int)) : List (Int × Int) := (ordL obj os).map (fun i => os.getD i.toNat (0, 0))
theorem ordO_length (obj : Int) (os : List (Int × Int)) : (ordO obj os).length = os.length := by simp [ordO, ordL_length]
theorem ordO_at {obj : Int} {os : List (Int × Int)} {i : Nat} (h : i < os.length) : (ordO obj os).getD i (0, 0) = os.getD ((ordL obj os).getD i 0).toNat (0, 0) := by
  have hl : i < (ordL obj os).length := by rw [ordL_length]; exact h
  simp [ordO, List.getD, hl]
/-- What is told, put into its own places, of the first k. -/
def placeK (l : List Int) (t : List (Int × Int)) (n : Nat) : Nat → List (Int × Int)
  | 0 => List.replicate n (0, 0)
  | k + 1 => (placeK l t n k).set (l.getD k 0).toNat (t.getD k (0, 0))
theorem placeK_length (l : List Int) (t : List (Int × Int)) (n : Nat) : ∀ k, (placeK l t n k).length = n
  | 0 => by simp [placeK]
  | k + 1 => by simp [placeK, placeK_length l t n k]
/-- What a batch leaves, and tells. -/
def batZ (obj m : Int) (zs : List Int) (os : List (Int × Int)) : List Int := runZ obj m zs (ordO obj os)
def batT (obj m : Int) (zs : List Int) (os : List (Int × Int)) : List (Int × Int) := placeK (ordL obj os) (runT obj m zs (ordO obj os)) os.length os.length
theorem batT_length (obj m : Int) (zs : List Int) (os : List (Int × Int)) : (batT obj m zs os).length = os.length := placeK_length _ _ _ _

/-- A list, none of whose cells lies in a block. -/
def Aside (a : Option Addr) (n : Nat) (g : Option Nat) : Prop := 0 < n → ∀ x, a = some x → g ≠ some x.block

theorem reads_lt {w : World} {a : Option Addr} {n : Nat} {zs : List Int} (h : Reads .i32 w a n zs) (hp : 0 < n) : ∀ x, a = some x → x.block < w.heap.size := by
  intro x e
  obtain ⟨b, off, e', bl, _⟩ := h.2 hp
  rw [e'] at e
  injection e with e
  subst e
  exact bl
theorem reads_grown {w w' : World} {a : Option Addr} {n : Nat} {zs : List Int} {g : Option Nat} (h : Reads .i32 w a n zs) (hn : Aside a n g) (hw : w.grownBy w' g) : Reads .i32 w' a n zs := by
  rcases Nat.eq_zero_or_pos n with h0 | h0
  · subst h0; exact ⟨h.1, fun h => by omega⟩
  · exact h.off (F := fun k => g = some k) (fun x e he => hn h0 x e he) ⟨hw.os, hw.tape, hw.output, hw.size, fun k hk hne => hw.block k hk (fun e => hne e.symm)⟩


end Go.Proofs.YtniefplgijpckaaGreat
