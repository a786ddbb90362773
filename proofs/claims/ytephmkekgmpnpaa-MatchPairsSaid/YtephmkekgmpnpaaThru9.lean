/-
  What pop, do and close of package match do with a line, whatever is told what becomes of operations; and through, which has operations wait and meet. Conditions: a line as St says; what is told as Hooks says.
-/
import Derived.Test.YtephmkekgmpnpaaLin9
import Derived.Shelf.Abstract
import Derived.Defers
namespace Go.Proofs.Ytephmkekgmpnpaa
open Go.RowKit

/-- Four functions that are told what becomes of operations. -/
def tellsV (f1 f2 f3 f4 : Nat) (l1 l2 l3 l4 : Array Value) : Value := .agg #[.func (.func f1) #[] l1, .func (.func f2) #[] l2, .func (.func f3) #[] l3, .func (.func f4) #[] l4]

/-- What a function that is told leaves. -/
def Hooked (Q' : (Nat → Prop) → World → Prop) (G : Nat → Prop) (w : World) (e : Ending) (w' : World) : Prop :=
  e = .returned (.tuple #[]) ∧ ∃ G', Q' G' w' ∧ Wrote G w w' ∧ Later G G' w

/-- What those who are told do: I k holds ahead of operation k, M k when somebody was told of it, and its code is not written yet; K j when j of those that stay were told. -/
structure Hooks (B n : Nat) (most there : Int) (ks : Nat → Int) (f1 f2 f3 f4 : Nat) (l1 l2 l3 l4 : Array Value) (P : Nat → Addr) (I M K : Nat → (Nat → Prop) → World → Prop) : Prop where
  e1 : Enters Try.prog f1
  e2 : Enters Try.prog f2
  e3 : Enters Try.prog f3
  e4 : Enters Try.prog f4
  low : 0 ≤ there
  high : there ≤ most
  top : most ≤ 1000
  footI : ∀ k G W, I k G W → ∀ g, G g → g < W.heap.size
  footM : ∀ k G W, M k G W → ∀ g, G g → g < W.heap.size
  footK : ∀ k G W, K k G W → ∀ g, G g → g < W.heap.size
  keepI : ∀ k G L W W', I k G W → Wrote L W W' → Apart G L → (∀ g, L g → B ≤ g) → I k G W'
  keepM : ∀ k G L W W', M k G W → Wrote L W W' → Apart G L → (∀ g, L g → B ≤ g) → M k G W'
  keepK : ∀ k G L W W', K k G W → Wrote L W W' → Apart G L → (∀ g, L g → B ≤ g) → K k G W'
  code : ∀ (k : Nat) G W, I k G W → k < n → Calls Try.prog f1 (#[.int .i64 k] ++ l1) W fun e w' => e = .returned (.pointer (some (P k))) ∧ W = w'
  meet : ∀ (k : Nat) G W j ys, I k G W → k < n → ks k = 2 → (lineAt most there ks k).2 = ys ++ [j] → Calls Try.prog f2 (#[.int .i64 k, .int .i64 j] ++ l2) W (Hooked (M k) G W)
  take : ∀ (k : Nat) G W, I k G W → k < n → ks k = 2 → (lineAt most there ks k).2 = [] → 0 < (lineAt most there ks k).1 → Calls Try.prog f3 (#[.int .i64 k] ++ l3) W (Hooked (M k) G W)
  idle : ∀ (k : Nat) G W, I k G W → k < n → (ks k = 2 → (lineAt most there ks k).2 = [] ∧ ¬ 0 < (lineAt most there ks k).1) → M k G W
  cell : ∀ (k : Nat) G W, M k G W → k < n → (∃ x, W.cell? (P k) = some (.int .u8 x)) ∧ W.frozen? (P k) = false ∧ G (P k).block
  store : ∀ (k : Nat) G W, M k G W → k < n → I (k + 1) G (W.setCell (P k) (.int .u8 (lineC most (lineAt most there ks k) (ks k))))
  turn : ∀ G W, I n G W → K 0 G W
  stay : ∀ (j : Nat) G W x, K j G W → (lineAt most there ks n).2[j]? = some x → Calls Try.prog f4 (#[.int .i64 x] ++ l4) W (Hooked (K (j + 1)) G W)

/-- A line whose list is v, and beside it what Q says; w0, G0: the world at the beginning, and what may be written of it. -/
def StV (B : Nat) (w0 : World) (G0 : Nat → Prop) (p : Nat) (v : Value) (most : Int) (s : Int × List Int) (Q : (Nat → Prop) → World → Prop) (w : World) : Prop :=
  ∃ L G, LinV w p v most s.1 s.2 ∧ L p ∧ (∀ g, v.ownBlock = some g → L g) ∧ (∀ g, L g → g < w.heap.size) ∧ Q G w ∧ Apart L G ∧ Wrote G0 w0 w ∧ Later G0 G w0 ∧ Later G0 L w0 ∧ (∀ g, L g → B ≤ g) ∧ B ≤ w.heap.size
def St (B : Nat) (w0 : World) (G0 : Nat → Prop) (p : Nat) (most : Int) (s : Int × List Int) (Q : (Nat → Prop) → World → Prop) (w : World) : Prop := ∃ v, StV B w0 G0 p v most s Q w

section
variable {B : Nat} {w0 w w' : World} {G0 : Nat → Prop} {p : Nat} {v : Value} {most : Int} {s : Int × List Int} {Q Q' : (Nat → Prop) → World → Prop}

theorem StV.line (h : StV B w0 G0 p v most s Q w) : LinV w p v most s.1 s.2 := by obtain ⟨L, G, m, _⟩ := h; exact m
theorem StV.wrote (h : StV B w0 G0 p v most s Q w) : Wrote G0 w0 w := by obtain ⟨L, G, _, _, _, _, _, _, h7, _⟩ := h; exact h7
theorem StV.imp (h : StV B w0 G0 p v most s Q w) (hi : ∀ G, Q G w → Q' G w) : StV B w0 G0 p v most s Q' w := by
  obtain ⟨L, G, h1, h2, h3, h4, h5, h6⟩ := h
  exact ⟨L, G, h1, h2, h3, h4, hi G h5, h6⟩
/-- New memory. -/
theorem StV.fresh (h : StV B w0 G0 p v most s Q w) (keep : ∀ G L W W', Q G W → Wrote L W W' → Apart G L → (∀ g, L g → B ≤ g) → Q G W') (hb : Below w.heap.size w w') : StV B w0 G0 p v most s Q w' := by
  obtain ⟨L, G, h1, h2, h3, h4, h5, h6, h7, h8, h9, h10, h11⟩ := h
  have hw := Wrote.of hb (fun _ => False)
  exact ⟨L, G, h1.keep (hb.block _ h1.lt) (fun g hg => hb.block _ (h4 g (h3 g hg))), h2, h3, fun g hg => Nat.lt_of_lt_of_le (h4 g hg) hb.size, keep G _ _ _ h5 hw (fun _ _ h => h) (fun _ h => h.elim), h6, h7.trans (Wrote.of hb G0), h8, h9, h10, Nat.le_trans h11 hb.size⟩
/-- A call of one who is told. -/
theorem StV.call (h : StV B w0 G0 p v most s Q w) {f : Nat} {args : Array Value} (C : ∀ G, Q G w → Calls Try.prog f args w (Hooked Q' G w)) :
    Calls Try.prog f args w fun e w' => e = .returned (.tuple #[]) ∧ StV B w0 G0 p v most s Q' w' := by
  obtain ⟨L, G, h1, h2, h3, h4, h5, h6, h7, h8, h9, h10, h11⟩ := h
  refine (C G h5).mono ?_
  rintro e w' ⟨he, G', q, wr, lt⟩
  refine ⟨he, L, G', h1.keep (wr.block _ h1.lt (h6 p h2)) (fun g hg => wr.block _ (h4 g (h3 g hg)) (h6 g (h3 g hg))), h2, h3, fun g hg => Nat.lt_of_lt_of_le (h4 g hg) wr.size, q, (lt.apart h6.symm h4).symm, h7.step h8 wr, h8.trans lt h7.size, h9, h10, Nat.le_trans h11 wr.size⟩
/-- A line's own call. -/
theorem StV.own (h : StV B w0 G0 p v most s Q w) (keep : ∀ G L W W', Q G W → Wrote L W W' → Apart G L → (∀ g, L g → B ≤ g) → Q G W') (foot : ∀ G W, Q G W → ∀ g, G g → g < W.heap.size) {t : Int} {ps : List Int} {f : Nat} {args : Array Value} {r : Value}
    (C : ∀ L, Lin w L p most s.1 s.2 → Calls Try.prog f args w fun e w' => e = .returned r ∧ LDid L p most t ps w w') :
    Calls Try.prog f args w fun e w' => e = .returned r ∧ St B w0 G0 p most (t, ps) Q w' := by
  obtain ⟨L, G, h1, h2, h3, h4, h5, h6, h7, h8, h9, h10, h11⟩ := h
  refine (C L ⟨v, h1, h2, h3, h4⟩).mono ?_
  rintro e w' ⟨he, L', ⟨v', m', k2, k3, k4⟩, wr, lt⟩
  refine ⟨he, v', L', G, m', k2, k3, k4, keep G _ _ _ h5 wr h6.symm h10, lt.apart h6 (foot G _ h5), h7.step h9 wr, h8, h9.trans lt h7.size, fun g hg => ?_, Nat.le_trans h11 wr.size⟩
  rcases lt g hg with h | h
  · exact h10 g h
  · omega
theorem StV.cut {g cap k : Nat} {y : Int} {t : Int} {ps : List Int} (h : StV B w0 G0 p (.slice (some ⟨g, 0, none⟩) (k + 1) cap) most (t, ps ++ [y]) Q w) (hk : k = ps.length) (keep : ∀ G L W W', Q G W → Wrote L W W' → Apart G L → (∀ g, L g → B ≤ g) → Q G W') :
    St B w0 G0 p most (t, ps) Q (w.setCell ⟨p, 2, none⟩ (.slice (some ⟨g, 0, none⟩) k cap)) := by
  obtain ⟨L, G, h1, h2, h3, h4, h5, h6, h7, h8, h9, h10, h11⟩ := h
  subst hk
  have ho := h1.own
  simp only [List.length_append, List.length_cons, List.length_nil, Nat.zero_add] at ho
  have hc := own_cut ho (Nat.le_succ ps.length)
  have wr : Wrote L w (w.setCell ⟨p, 2, none⟩ (.slice (some ⟨g, 0, none⟩) ps.length cap)) := (Wrote.refl L w).setCell (.inr h2) _
  refine ⟨_, L, G, h1.setList (v' := .slice (some ⟨g, 0, none⟩) ps.length cap) (by simpa [List.take_append] using hc) h1.ne, h2, ?_, by simpa [World.setCell] using h4, keep G _ _ _ h5 wr h6.symm h10, h6, h7.step h9 wr, h8, h9, h10, Nat.le_trans h11 wr.size⟩
  intro g' hg'
  simp only [Value.ownBlock, Option.some.injEq] at hg'
  subst hg'
  exact h3 g rfl
theorem StV.less (h : StV B w0 G0 p v most s Q w) (keep : ∀ G L W W', Q G W → Wrote L W W' → Apart G L → (∀ g, L g → B ≤ g) → Q G W') (t : Int) : St B w0 G0 p most (t, s.2) Q (w.setCell ⟨p, 1, none⟩ (.int .i64 t)) := by
  obtain ⟨L, G, h1, h2, h3, h4, h5, h6, h7, h8, h9, h10, h11⟩ := h
  have wr : Wrote L w (w.setCell ⟨p, 1, none⟩ (.int .i64 t)) := (Wrote.refl L w).setCell (.inr h2) _
  exact ⟨v, L, G, h1.setThere t, h2, h3, by simpa [World.setCell] using h4, keep G _ _ _ h5 wr h6.symm h10, h6, h7.step h9 wr, h8, h9, h10, Nat.le_trans h11 wr.size⟩
/-- The same from the world that stands now on. -/
theorem StV.rebase (h : StV B w0 G0 p v most s Q w) (keep : ∀ G L W W', Q G W → Wrote L W W' → Apart G L → (∀ g, L g → B ≤ g) → Q G W') (foot : ∀ G W, Q G W → ∀ g, G g → g < W.heap.size) :
    ∃ U, (∀ g, U g → g < w.heap.size) ∧ Later G0 U w0 ∧ (∀ w2, Below w.heap.size w w2 → StV B w2 U p v most s Q w2) ∧ ∀ w2 w' s' Q', Below w.heap.size w w2 → St B w2 U p most s' Q' w' → St B w0 G0 p most s' Q' w' := by
  obtain ⟨L, G, h1, h2, h3, h4, h5, h6, h7, h8, h9, h10, h11⟩ := h
  have hU : Later G0 (fun g => L g ∨ G g) w0 := fun g hg => by
    rcases hg with h | h
    · exact h9 g h
    · exact h8 g h
  refine ⟨fun g => L g ∨ G g, fun g hg => ?_, hU, fun w2 hb => ?_, fun w2 w' s' Q' hb k => ?_⟩
  · rcases hg with h | h
    · exact h4 g h
    · exact foot G w h5 g h
  · exact ⟨L, G, h1.keep (hb.block _ h1.lt) (fun g hg => hb.block _ (h4 g (h3 g hg))), h2, h3, fun g hg => Nat.lt_of_lt_of_le (h4 g hg) hb.size, keep G _ _ _ h5 (Wrote.of hb (fun _ => False)) (fun _ _ h => h) (fun _ h => h.elim), h6, Wrote.refl _ _, fun _ h => .inl (.inr h), fun _ h => .inl (.inl h), h10, Nat.le_trans h11 hb.size⟩
  · obtain ⟨v', L', G', k1, k2, k3, k4, k5, k6, k7, k8, k9, k10, k11⟩ := k
    have hs : w0.heap.size ≤ w2.heap.size := Nat.le_trans h7.size hb.size
    exact ⟨v', L', G', k1, k2, k3, k4, k5, k6, (h7.trans (Wrote.of hb G0)).step hU k7, hU.trans k8 hs, hU.trans k9 hs, k10, k11⟩
/-- What is asked of it alone. -/
theorem StV.ask (h : StV B w0 G0 p v most s Q w) {f : Nat} {args : Array Value} {R : Ending → World → Prop} (C : ∀ G, Q G w → Calls Try.prog f args w R) : Calls Try.prog f args w R := by
  obtain ⟨L, G, _, _, _, _, h5, _⟩ := h
  exact C G h5
/-- A store into its own memory. -/
theorem St.put (h : St B w0 G0 p most s Q w) {a : Addr} {x : Value} (foot : ∀ G W, Q' G W → ∀ g, G g → g < W.heap.size) (hs : ∀ G, Q G w → G a.block ∧ Q' G (w.setCell a x)) : St B w0 G0 p most s Q' (w.setCell a x) := by
  obtain ⟨v, L, G, h1, h2, h3, h4, h5, h6, h7, h8, h9, h10, h11⟩ := h
  obtain ⟨k1, k2⟩ := hs G h5
  have wr : Wrote G w (w.setCell a x) := (Wrote.refl G w).setCell (.inr k1) _
  exact ⟨v, L, G, h1.keep (wr.block _ h1.lt (h6 p h2)) (fun g hg => wr.block _ (h4 g (h3 g hg)) (h6 g (h3 g hg))), h2, h3, fun g hg => Nat.lt_of_lt_of_le (h4 g hg) wr.size, k2, h6, h7.step h8 wr, h8, h9, h10, Nat.le_trans h11 wr.size⟩
end

theorem tellsBox (w : World) (f1 f2 f3 f4 : Nat) (l1 l2 l3 l4 : Array Value) : ∀ W, w.alloc (.cells #[.func (.func f1) #[] l1, .func (.func f2) #[] l2, .func (.func f3) #[] l3, .func (.func f4) #[] l4] 67) = W →
    W.cell? ⟨w.heap.size, 0, none⟩ = some (.func (.func f1) #[] l1) ∧ W.cell? ⟨w.heap.size, 1, none⟩ = some (.func (.func f2) #[] l2) ∧ W.cell? ⟨w.heap.size, 2, none⟩ = some (.func (.func f3) #[] l3) ∧ W.cell? ⟨w.heap.size, 3, none⟩ = some (.func (.func f4) #[] l4) ∧ Below w.heap.size w W := by
  rintro W rfl
  refine ⟨?_, ?_, ?_, ?_, (Below.refl _ _).alloc (Nat.le_refl _) _⟩
  all_goals go_simp

section
variable {B n : Nat} {most there : Int} {ks : Nat → Int} {f1 f2 f3 f4 : Nat} {l1 l2 l3 l4 : Array Value} {P : Nat → Addr} {I M K : Nat → (Nat → Prop) → World → Prop} {w0 w : World} {G0 : Nat → Prop} {p : Nat}

set_option maxHeartbeats 3200000 in
theorem lpopMeet (H : Hooks B n most there ks f1 f2 f3 f4 l1 l2 l3 l4 P I M K) {k : Nat} {t j : Int} {ys : List Int} (hk : k < n) (hkd : ks k = 2) (hs : lineAt most there ks k = (t, ys ++ [j])) (h : St B w0 G0 p most (t, ys ++ [j]) (I k) w) :
    Calls Try.prog 47 #[.pointer (some ⟨p, 0, none⟩), .int .i64 k, tellsV f1 f2 f3 f4 l1 l2 l3 l4] w fun e w' => e = .returned (.int .u8 2) ∧ St B w0 G0 p most (t, ys) (M k) w' := by
  have HO := Lib.hid (lineAt_ok H.low H.high ks k)
  obtain ⟨v, h⟩ := h
  have m := h.line
  obtain ⟨q, hq⟩ : ∃ q, q = ys.length := ⟨_, rfl⟩
  have hl : (ys ++ [j]).length = q + 1 := by simp [hq]
  have hq1 : q ≤ 1000 := by have := HO.out.room; have := HO.out.low; have := H.top; rw [hs] at *; simp at *; omega
  have ho := m.own
  simp only [hl] at ho
  rcases ho.2 with ⟨_, e⟩ | ⟨g, cap, cur, rfl, _, hg, hle, _⟩
  · omega
  · have cy := ho.cellAt q (by omega)
    have hy : ((ys ++ [j]).map (Value.int .i64))[q]? = some (.int .i64 j) := by subst hq; simp
    rw [hy] at cy
    have HH := Lib.hid H
    have HS := Lib.hid (show (lineAt most there ks k).2 = ys ++ [j] by rw [hs])
    have HQ := Lib.hid hq
    have HK := Lib.hid hkd
    clear m ho hg hl hy hs hq hkd H
    unfold tellsV
    go_enter Try.func47, Try.ntmps47
    go_upto_region 1 with (fail)
    generalize hW : w.alloc (.cells #[.func (.func f1) #[] l1, .func (.func f2) #[] l2, .func (.func f3) #[] l3, .func (.func f4) #[] l4] 67) = W
    obtain ⟨b1, b2, b3, b4, hb⟩ := tellsBox w f1 f2 f3 f4 l1 l2 l3 l4 W hW
    have cy2 := (hb.cell (p := ⟨g, q, none⟩) (World.block_lt_of_cell? w _ cy)).trans cy
    have h2 := h.fresh (HH.out.keepI k) hb
    clear hW h cy b1 b3 b4 hb
    have c2 := h2.line.c2
    have HT := Lib.hid h2
    clear h2
    obtain ⟨r, hr⟩ : ∃ r, q + 1 = r := ⟨_, rfl⟩
    have e1 : IntKind.i64.wrap ((r : Int) - 1) = (q : Int) := by rw [IntKind.wrap_i64]; omega
    have q0 : (0 : Int) ≤ (q : Int) := by omega
    have q1 : (q : Int) < (r : Int) := by omega
    rw [hr] at c2 hle
    have HR := Lib.hid hr
    clear hr
    go_wp2
    go_still_tail 10, (by kernel_rfl)
    clear b2 cy2 e1
    change wpList _ _ _ _ _ W.drew
    have HT2 := Lib.hid (HT.out.fresh (HH.out.keepI k) (Below.refl _ _).drew)
    have C := HT2.out.call (Q' := M k) (fun G hI => HH.out.meet k G W.drew j ys hI hk HK.out HS.out)
    clear HT c2
    generalize W.drew = W2 at *
    have hE := HH.out.e2
    unfold Enters at hE
    go_wp2_with fail
    refine C.mono ?_
    clear C hE
    rintro e w3 ⟨rfl, h3⟩
    have c2 := h3.line.c2
    have fz := h3.line.f 2
    have HT3 := Lib.hid h3
    clear h3 HT2
    have q2 : (q : Int) ≤ (cap : Int) := by omega
    go_wp2
    go_ret
    exact ⟨rfl, HT3.out.cut HQ.out (HH.out.keepM k)⟩

set_option maxHeartbeats 3200000 in
theorem lpopTake (H : Hooks B n most there ks f1 f2 f3 f4 l1 l2 l3 l4 P I M K) {k : Nat} {t : Int} (hk : k < n) (hkd : ks k = 2) (hs : lineAt most there ks k = (t, [])) (ht : 0 < t) (h : St B w0 G0 p most (t, []) (I k) w) :
    Calls Try.prog 47 #[.pointer (some ⟨p, 0, none⟩), .int .i64 k, tellsV f1 f2 f3 f4 l1 l2 l3 l4] w fun e w' => e = .returned (.int .u8 2) ∧ St B w0 G0 p most (t - 1, []) (M k) w' := by
  have HO := Lib.hid (lineAt_ok H.low H.high ks k)
  obtain ⟨v, h⟩ := h
  have ht1 : t ≤ 1000 := by have := HO.out.room; have := H.top; rw [hs] at *; simp at *; omega
  obtain ⟨ao, cap, rfl⟩ := ownShape h.line.own
  have HH := Lib.hid H
  have HS := Lib.hid (And.intro (show (lineAt most there ks k).2 = [] by rw [hs]) (show 0 < (lineAt most there ks k).1 by rw [hs]; exact ht))
  have HK := Lib.hid hkd
  clear hs hkd H HO
  unfold tellsV
  go_enter Try.func47, Try.ntmps47
  go_upto_region 1 with (fail)
  generalize hW : w.alloc (.cells #[.func (.func f1) #[] l1, .func (.func f2) #[] l2, .func (.func f3) #[] l3, .func (.func f4) #[] l4] 67) = W
  obtain ⟨b1, b2, b3, b4, hb⟩ := tellsBox w f1 f2 f3 f4 l1 l2 l3 l4 W hW
  have h2 := h.fresh (HH.out.keepI k) hb
  clear hW h b1 b2 b4 hb
  have c1 := h2.line.c1
  have c2 := h2.line.c2
  simp only [List.length_nil] at c1 c2
  have C := h2.call (Q' := M k) (fun G hI => HH.out.take k G W hI hk HK.out HS.out.1 HS.out.2)
  clear h2
  have hE := HH.out.e3
  unfold Enters at hE
  have t2 : IntKind.i64.wrap (t - 1) = t - 1 := IntWalk.i64_in _ (by omega)
  go_wp2_with fail
  refine C.mono ?_
  clear C hE c1 c2
  rintro e w3 ⟨rfl, h3⟩
  have c1 := h3.line.c1
  have fz := h3.line.f 1
  have HT3 := Lib.hid h3
  clear h3
  go_wp2
  go_ret
  exact ⟨rfl, HT3.out.less (HH.out.keepM k) (t - 1)⟩

set_option maxHeartbeats 3200000 in
theorem lpopNone (H : Hooks B n most there ks f1 f2 f3 f4 l1 l2 l3 l4 P I M K) {k : Nat} {t : Int} (hk : k < n) (_hkd : ks k = 2) (hs : lineAt most there ks k = (t, [])) (ht : ¬ 0 < t) (h : St B w0 G0 p most (t, []) (I k) w) :
    Calls Try.prog 47 #[.pointer (some ⟨p, 0, none⟩), .int .i64 k, tellsV f1 f2 f3 f4 l1 l2 l3 l4] w fun e w' => e = .returned (.int .u8 4) ∧ St B w0 G0 p most (t, []) (M k) w' := by
  obtain ⟨v, h⟩ := h
  obtain ⟨ao, cap, rfl⟩ := ownShape h.line.own
  have HH := Lib.hid H
  have HI := Lib.hid (h.imp (Q' := M k) (fun G hI => H.idle k G w hI hk (fun _ => by rw [hs]; exact ⟨rfl, ht⟩)))
  clear hs H h
  unfold tellsV
  go_enter Try.func47, Try.ntmps47
  go_upto_region 1 with (fail)
  generalize hW : w.alloc (.cells #[.func (.func f1) #[] l1, .func (.func f2) #[] l2, .func (.func f3) #[] l3, .func (.func f4) #[] l4] 67) = W
  obtain ⟨b1, b2, b3, b4, hb⟩ := tellsBox w f1 f2 f3 f4 l1 l2 l3 l4 W hW
  have h2 := HI.out.fresh (HH.out.keepM k) hb
  clear hW b1 b2 b3 b4 hb HI
  have c1 := h2.line.c1
  have c2 := h2.line.c2
  simp only [List.length_nil] at c1 c2
  have HT := Lib.hid h2
  clear h2
  go_wp2
  go_ret
  exact ⟨rfl, _, HT.out⟩

theorem lineStep_push {s : Int × List Int} (h : s.1 + s.2.length < most) (k : Int) : lineStep most s k 1 = (s.1, s.2 ++ [k]) ∧ lineC most s 1 = 1 := by simp [lineStep, lineC, h]
theorem lineStep_full {s : Int × List Int} (h : ¬ s.1 + s.2.length < most) (k : Int) : lineStep most s k 1 = s ∧ lineC most s 1 = 3 := by simp [lineStep, lineC, h]
theorem lineStep_meet {t j : Int} {ys : List Int} (k : Int) : lineStep most (t, ys ++ [j]) k 2 = (t, ys) ∧ lineC most (t, ys ++ [j]) 2 = 2 := by simp [lineStep, lineC]
theorem lineStep_take {t : Int} (h : 0 < t) (k : Int) : lineStep most (t, []) k 2 = (t - 1, []) ∧ lineC most (t, []) 2 = 2 := by simp [lineStep, lineC, h]
theorem lineStep_none {t : Int} (h : ¬ 0 < t) (k : Int) : lineStep most (t, []) k 2 = (t, []) ∧ lineC most (t, []) 2 = 4 := by simp [lineStep, lineC, h]
theorem lineStep_bad {s : Int × List Int} {kind : Int} (h1 : kind ≠ 1) (h2 : kind ≠ 2) (k : Int) : lineStep most s k kind = s ∧ lineC most s kind = 5 := by simp [lineStep, lineC, h1, h2]

set_option maxHeartbeats 6400000 in
theorem ldoAny (H : Hooks B n most there ks f1 f2 f3 f4 l1 l2 l3 l4 P I M K) {k : Nat} (hk : k < n) {kind : Int} (hkd : ks k = kind) (h : St B w0 G0 p most (lineAt most there ks k) (I k) w) :
    Calls Try.prog 45 #[.pointer (some ⟨p, 0, none⟩), .int .i64 k, .int .u8 kind, tellsV f1 f2 f3 f4 l1 l2 l3 l4] w fun e w' =>
      e = .returned (.int .u8 (lineC most (lineAt most there ks k) kind)) ∧ St B w0 G0 p most (lineAt most there ks (k + 1)) (M k) w' := by
  have HO := Lib.hid (lineAt_ok H.low H.high ks k)
  have HN := Lib.hid (show lineAt most there ks (k + 1) = lineStep most (lineAt most there ks k) k kind by rw [← hkd]; rfl)
  obtain ⟨t, ps, hs⟩ : ∃ t ps, lineAt most there ks k = (t, ps) := ⟨_, _, rfl⟩
  have o1 : 0 ≤ t := by have := HO.out.low; rw [hs] at this; exact this
  have o2 : t + ps.length ≤ most := by have := HO.out.room; rw [hs] at this; exact this
  have o3 : most ≤ 1000 := H.top
  have o4 : t + (ps.length : Int) ≤ 1000 := by omega
  rw [hs] at h
  rw [HN.out, hs]
  have HS := Lib.hid hs
  have HH := Lib.hid H
  have HKD := Lib.hid hkd
  clear hs H HN HO hkd
  obtain ⟨W, hW⟩ : ∃ W, w.alloc (.cells #[.func (.func f1) #[] l1, .func (.func f2) #[] l2, .func (.func f3) #[] l3, .func (.func f4) #[] l4] 67) = W := ⟨_, rfl⟩
  obtain ⟨b1, b2, b3, b4, hb⟩ := tellsBox w f1 f2 f3 f4 l1 l2 l3 l4 W hW
  obtain ⟨v, h⟩ := h
  have HT := Lib.hid (show StV B w0 G0 p v most (t, ps) (I k) W from h.fresh (HH.out.keepI k) hb)
  have HW := Lib.hid hW
  clear h hb hW
  unfold tellsV
  by_cases k1 : kind = 1
  · subst k1
    have HM := Lib.hid (HT.out.imp (Q' := M k) (fun G hI => HH.out.idle k G W hI hk (fun e => by have := HKD.out; omega)))
    clear b1 b2 b3 b4
    by_cases hf : t + ps.length < most
    · have HE := Lib.hid (lineStep_push (s := (t, ps)) hf k)
      rw [HE.out.1, HE.out.2]
      have C := HM.out.own (HH.out.keepM k) (HH.out.footM k) (fun L hL => lpushOk hL k o1 o4 hf)
      go_enter Try.func45, Try.ntmps45
      go_upto_region 1 with (fail)
      rw [HW.out]
      go_wp2_with fail
      refine C.mono ?_
      clear C
      rintro e w3 ⟨rfl, h3⟩
      have H3 := Lib.hid h3
      clear h3
      go_wp2
      go_ret
      exact ⟨rfl, H3.out⟩
    · have HE := Lib.hid (lineStep_full (s := (t, ps)) hf k)
      rw [HE.out.1, HE.out.2]
      have C : Calls Try.prog 46 #[.pointer (some ⟨p, 0, none⟩), .int .i64 k] W fun e w' => e = .returned (.int .u8 3) ∧ St B w0 G0 p most (t, ps) (M k) w' := by
        obtain ⟨L, G, m, q2, q3, q4, _⟩ := id HM.out
        refine (lpushFull ⟨v, m, q2, q3, q4⟩ k o1 o4 hf).mono ?_
        rintro e w' ⟨he, q, rfl⟩
        exact ⟨he, v, HM.out.fresh (HH.out.keepM k) (below_drewN (Below.refl _ _) _)⟩
      go_enter Try.func45, Try.ntmps45
      go_upto_region 1 with (fail)
      rw [HW.out]
      go_wp2_with fail
      refine C.mono ?_
      clear C
      rintro e w3 ⟨rfl, h3⟩
      have H3 := Lib.hid h3
      clear h3
      go_wp2
      go_ret
      exact ⟨rfl, H3.out⟩
  · by_cases k2 : kind = 2
    · subst k2
      clear k1
      rcases List.eq_nil_or_concat ps with e | ⟨ys, j, e⟩
      · subst e
        by_cases ht : 0 < t
        · have HE := Lib.hid (lineStep_take (most := most) ht k)
          rw [HE.out.1, HE.out.2]
          have C := lpopTake HH.out hk HKD.out HS.out ht ⟨v, HT.out⟩
          unfold tellsV at C
          go_enter Try.func45, Try.ntmps45
          go_upto_region 1 with (fail)
          rw [HW.out]
          go_wp2_with fail
          refine C.mono ?_
          clear C
          rintro e w3 ⟨rfl, h3⟩
          have H3 := Lib.hid h3
          clear h3
          go_wp2
          go_ret
          exact ⟨rfl, H3.out⟩
        · have HE := Lib.hid (lineStep_none (most := most) ht k)
          rw [HE.out.1, HE.out.2]
          have C := lpopNone HH.out hk HKD.out HS.out ht ⟨v, HT.out⟩
          unfold tellsV at C
          go_enter Try.func45, Try.ntmps45
          go_upto_region 1 with (fail)
          rw [HW.out]
          go_wp2_with fail
          refine C.mono ?_
          clear C
          rintro e w3 ⟨rfl, h3⟩
          have H3 := Lib.hid h3
          clear h3
          go_wp2
          go_ret
          exact ⟨rfl, H3.out⟩
      · rw [List.concat_eq_append] at e
        subst e
        have HE := Lib.hid (lineStep_meet (most := most) (t := t) (ys := ys) (j := j) k)
        rw [HE.out.1, HE.out.2]
        have C := lpopMeet HH.out hk HKD.out HS.out ⟨v, HT.out⟩
        unfold tellsV at C
        go_enter Try.func45, Try.ntmps45
        go_upto_region 1 with (fail)
        rw [HW.out]
        go_wp2_with fail
        refine C.mono ?_
        clear C
        rintro e w3 ⟨rfl, h3⟩
        have H3 := Lib.hid h3
        clear h3
        go_wp2
        go_ret
        exact ⟨rfl, H3.out⟩
    · have HE := Lib.hid (lineStep_bad (most := most) (s := (t, ps)) k1 k2 k)
      rw [HE.out.1, HE.out.2]
      have k3 : (kind == 1) = false := by simpa using k1
      have k4 : (kind == 2) = false := by simpa using k2
      have H3 := Lib.hid (show St B w0 G0 p most (t, ps) (M k) W from ⟨v, HT.out.imp (fun G hI => HH.out.idle k G W hI hk (fun e => absurd (HKD.out.symm.trans e) k2))⟩)
      clear k1 k2 b1 b2 b3 b4
      go_enter Try.func45, Try.ntmps45
      go_upto_region 1 with (fail)
      rw [HW.out]
      go_wp2
      go_ret
      exact ⟨rfl, H3.out⟩
end

end Go.Proofs.Ytephmkekgmpnpaa
