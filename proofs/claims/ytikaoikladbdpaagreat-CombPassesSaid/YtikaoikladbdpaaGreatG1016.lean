/-
  A stack in a walk: what is known of it, of boxes and of lists beside it, between the calls. Conditions: none; no Go function is walked here. A line of pushes that wait, in memory: what push of package match does. Conditions: a line as Lin says. What pop, do and close of package match do with a line, whatever is told what becomes of operations; and through, which has operations wait and meet. Conditions: a line as St says; what is told as Hooks says. What close and through of package match do, whoever is told what becomes of operations. Conditions: a line as St says; what is told as Hooks says; operations that lie in memory. Rows of numbers and of what is told, in blocks of one's own, and boxes that hold them; whom the first operations meet, and codes, in rows. Conditions: none; no Go function is looked at here. A row of what is told, in a block of one's own: codes and values. Conditions: none; no Go function is looked at here.
-/
import Derived.Test.YtikaoikladbdpaaGreatQKStkEach9m
import Derived.Test.YtikaoikladbdpaaGreatG0816
import Derived.Shelf.Abstract
import Derived.Defers
namespace Go.Proofs.YtikaoikladbdpaaGreat.K9
open Go.RowKit

def At (w : World) (F : Nat → Prop) (p : Nat) (most : Int) (zs : List Int) (wr : World) : Prop := Stk wr F p most zs ∧ Below w.heap.size w wr ∧ ∀ g, F g → w.heap.size ≤ g

section
variable {w a b : World} {F G : Nat → Prop} {p : Nat} {most : Int} {zs zs' : List Int}
end

end Go.Proofs.YtikaoikladbdpaaGreat.K9
namespace Go.Proofs.YtikaoikladbdpaaGreat.K9
open Go.RowKit

theorem infoI : (Tryz.prog.info? 3).map (fun i => (i.zero, i.size, i.bytes)) = some (some (.int .i64 0), 1, 8) := by kernel_rfl

structure LinV (w : World) (p : Nat) (v : Value) (most there : Int) (ps : List Int) : Prop where
  block : w.heap[p]? = some (.cells #[.int .i64 most, .int .i64 there, v] 235 (0, 0))
  own : w.ownsRow 0 3 1 v ps.length (ps.map (Value.int .i64))

def Lin (w : World) (L : Nat → Prop) (p : Nat) (most there : Int) (ps : List Int) : Prop :=
  ∃ v, LinV w p v most there ps ∧ L p ∧ (∀ g, v.ownBlock = some g → L g) ∧ ∀ g, L g → g < w.heap.size

def LDid (L : Nat → Prop) (p : Nat) (most there : Int) (ps : List Int) (w w' : World) : Prop := ∃ L', Lin w' L' p most there ps ∧ Wrote L w w' ∧ Later L L' w

section
variable {w w' : World} {L G : Nat → Prop} {p : Nat} {v : Value} {most there : Int} {ps : List Int}

theorem LinV.lt (h : LinV w p v most there ps) : p < w.heap.size := lt_of_block h.block
theorem LinV.c0 (h : LinV w p v most there ps) : w.cell? ⟨p, 0, none⟩ = some (.int .i64 most) := by simp [World.cell?, h.block]
theorem LinV.c1 (h : LinV w p v most there ps) : w.cell? ⟨p, 1, none⟩ = some (.int .i64 there) := by simp [World.cell?, h.block]
theorem LinV.c2 (h : LinV w p v most there ps) : w.cell? ⟨p, 2, none⟩ = some v := by simp [World.cell?, h.block]
theorem LinV.f (h : LinV w p v most there ps) (j : Nat) : w.frozen? ⟨p, j, none⟩ = false := by simp [World.frozen?, h.block]
theorem LinV.ne (h : LinV w p v most there ps) : v.ownBlock ≠ some p := by
  intro e
  rcases h.own.2 with ⟨rfl, _⟩ | ⟨g, cap, cur, rfl, _, hg, _⟩
  · simp [Value.ownBlock] at e
  · simp only [Value.ownBlock, Option.some.injEq] at e
    subst e
    have hb := h.block
    rw [hg] at hb
    simp at hb
theorem LinV.keep (h : LinV w p v most there ps) (hp : w'.heap[p]? = w.heap[p]?) (hv : ∀ g, v.ownBlock = some g → w'.heap[g]? = w.heap[g]?) : LinV w' p v most there ps :=
  ⟨hp.trans h.block, own_keep h.own hv⟩
theorem LinV.setList (h : LinV w p v most there ps) {v' : Value} {ps' : List Int} (ho : w.ownsRow 0 3 1 v' ps'.length (ps'.map (Value.int .i64))) (hne : v'.ownBlock ≠ some p) :
    LinV (w.setCell ⟨p, 2, none⟩ v') p v' most there ps' := by
  refine ⟨?_, ownsRow_setCell_other ho hne _⟩
  rw [heap_setCell_same w p 2 _ _ _ h.block]
  rfl
theorem LinV.setThere (h : LinV w p v most there ps) (t : Int) : LinV (w.setCell ⟨p, 1, none⟩ (.int .i64 t)) p v most t ps := by
  refine ⟨?_, ownsRow_setCell_other h.own h.ne _⟩
  rw [heap_setCell_same w p 1 _ _ _ h.block]
  rfl

theorem LDid.trans {a b c : World} {ps' : List Int} {t' : Int} (h : Wrote L a b) (hl : Later L G a) (d : LDid G p most t' ps' b c) : LDid L p most t' ps' a c := by
  obtain ⟨L', h1, h2, h3⟩ := d
  exact ⟨L', h1, h.step hl h2, hl.trans h3 h.size⟩

set_option maxRecDepth 100000 in
set_option maxHeartbeats 1600000 in
theorem lpushFull (h : Lin w L p most there ps) (k : Int) (h0 : 0 ≤ there) (h1 : there + ps.length ≤ 1000) (hf : ¬ there + ps.length < most) :
    Calls Tryz.prog 174 #[.pointer (some ⟨p, 0, none⟩), .int .i64 k] w fun e w' => e = .returned (.int .u8 3) ∧ ∃ q, w' = w.drewN q := by
  obtain ⟨v, m, _⟩ := h
  have c0 := m.c0
  have c1 := m.c1
  have c2 := m.c2
  obtain ⟨ao, cap, rfl⟩ := ownShape m.own
  clear m
  have e1 : IntKind.i64.wrap (there + ps.length) = there + ps.length := IntWalk.i64_in _ (by omega)
  have hf2 : most ≤ there + ps.length := by omega
  go_enter Tryz.func174, Tryz.ntmps174
  go_wp2
  go_quiet (fail)
  go_wp2
  go_ret
  exact ⟨rfl, _, rfl⟩

theorem lpushed {v' : Value} {w1 : World} {o : Obj} {x : Int} (m : LinV w p v most there ps) (h2 : L p) (h3 : ∀ g, v.ownBlock = some g → L g) (h4 : ∀ g, L g → g < w.heap.size)
    (ho : w1.ownsRow 0 3 1 v' (ps.length + 1) (ps.map (Value.int .i64) ++ [.int .i64 x])) (hg : (w.alloc o).grownBy w1 v.ownBlock) (hl : ∀ g, v'.ownBlock = some g → v.ownBlock = some g ∨ (w.alloc o).heap.size ≤ g) :
    w1.cell? ⟨p, 2, none⟩ = some v ∧ w1.frozen? ⟨p, 2, none⟩ = false ∧ LDid L p most there (ps ++ [x]) w (w1.setCell ⟨p, 2, none⟩ v') := by
  have hp := m.lt
  have ep : w1.heap[p]? = w.heap[p]? := (hg.block p (by simp; omega) (fun e => m.ne e.symm)).trans (Below.heap_alloc _ _ _ hp)
  have hne : v'.ownBlock ≠ some p := fun e => by
    rcases hl p e with e' | e'
    · exact m.ne e'
    · simp at e'; omega
  refine ⟨(World.cell?_of_block (a := ⟨p, 2, none⟩) ep).trans m.c2, (World.frozen?_of_block (a := ⟨p, 2, none⟩) ep).trans (m.f 2), fun g => L g ∨ v'.ownBlock = some g, ⟨v', ⟨?_, ?_⟩, .inl h2, fun g hg' => .inr hg', ?_⟩, ?_, ?_⟩
  · rw [heap_setCell_same w1 p 2 _ _ _ (ep.trans m.block)]; rfl
  · have := ownsRow_setCell_other (a := ⟨p, 2, none⟩) ho hne v'
    simpa using this
  · intro g hg'
    have hs : w.heap.size ≤ w1.heap.size := Nat.le_trans (by simp) hg.size
    rcases hg' with h | h
    · have := h4 g h
      simp [World.setCell]; omega
    · simpa [World.setCell] using (ho.lt g h).2
  · exact (((Wrote.refl L w).alloc o).grown hg (fun g e => .inl (h3 g e))).setCell (.inr h2) _
  · intro g hg'
    rcases hg' with h | h
    · exact .inl h
    · rcases hl g h with e | e
      · exact .inl (h3 g e)
      · exact .inr (by simp at e; omega)

set_option maxRecDepth 100000 in
set_option maxHeartbeats 1600000 in
theorem lpushOk (h : Lin w L p most there ps) (k : Int) (h0 : 0 ≤ there) (h1 : there + ps.length ≤ 1000) (hf : there + ps.length < most) :
    Calls Tryz.prog 174 #[.pointer (some ⟨p, 0, none⟩), .int .i64 k] w fun e w' => e = .returned (.int .u8 1) ∧ LDid L p most there (ps ++ [k]) w w' := by
  obtain ⟨v, m, h2, h3, h4⟩ := h
  have c0 := m.c0
  have c1 := m.c1
  have c2 := m.c2
  have HM := Lib.hid m
  have HA := Lib.hid (And.intro h2 (And.intro h3 h4))
  obtain ⟨ao, cap, rfl⟩ := ownShape m.own
  obtain ⟨i0, hi, hz0, hz1, hz2⟩ := info_parts infoI
  have hl : ps.length ≤ 1000 := by omega
  clear m h2 h3 h4
  have e1 : IntKind.i64.wrap (there + ps.length) = there + ps.length := IntWalk.i64_in _ (by omega)
  go_enter Tryz.func174, Tryz.ntmps174
  go_wp2
  go_quiet (fail)
  clear e1
  have HM2 := Lib.hid (show LinV (w.drewN nq) p _ most there ps from HM.out.keep rfl (fun _ _ => rfl))
  have HB2 := Lib.hid (show Below w.heap.size w (w.drewN nq) from below_drewN (Below.refl _ _) _)
  have HF2 := Lib.hid (show ∀ g, L g → g < (w.drewN nq).heap.size from HA.out.2.2)
  have c2' := HM2.out.c2
  clear c0 c1 c2
  generalize w.drewN nq = W at *
  go_wp2_with (at_builtin; refine wpList_append_later rfl _ _ 33 rfl 0 3 i0 _ 1 8 Tryz.underlying33 hi hz0 hz1 hz2 rfl (by decide) _ _ _ rfl (HM2.out.own.alloc _) ⟨W.heap.size, 0, none⟩ 1 1 [.int .i64 k] rfl rfl (by intro j u hu; cases j <;> simp at hu; subst hu; go_simp) (by intro u hu; simp at hu; subst hu; rfl) (by simp only [maxLen]; omega) (by omega) (Nat.zero_le _) ?_; intro v' w1 o1 g1 l1; obtain ⟨q1, q2, q3⟩ := lpushed HM2.out HA.out.1 HA.out.2.1 HF2.out o1 g1 l1; obtain ⟨ao', cap', rfl⟩ := ownShape o1; have HQ := Lib.hid q3; clear q3 o1 g1 l1)
  go_ret
  exact ⟨rfl, LDid.trans (Wrote.of HB2.out L) (Later.refl _ _) HQ.out⟩

end

end Go.Proofs.YtikaoikladbdpaaGreat.K9
namespace Go.Proofs.YtikaoikladbdpaaGreat.K9
open Go.RowKit

def tellsV (f1 f2 f3 f4 : Nat) (l1 l2 l3 l4 : Array Value) : Value := .agg #[.func (.func f1) #[] l1, .func (.func f2) #[] l2, .func (.func f3) #[] l3, .func (.func f4) #[] l4]

def Hooked (Q' : (Nat → Prop) → World → Prop) (G : Nat → Prop) (w : World) (e : Ending) (w' : World) : Prop :=
  e = .returned (.tuple #[]) ∧ ∃ G', Q' G' w' ∧ Wrote G w w' ∧ Later G G' w

structure Hooks (B n : Nat) (most there : Int) (ks : Nat → Int) (f1 f2 f3 f4 : Nat) (l1 l2 l3 l4 : Array Value) (P : Nat → Addr) (I M K : Nat → (Nat → Prop) → World → Prop) : Prop where
  e1 : Enters Tryz.prog f1
  e2 : Enters Tryz.prog f2
  e3 : Enters Tryz.prog f3
  e4 : Enters Tryz.prog f4
  low : 0 ≤ there
  high : there ≤ most
  top : most ≤ 1000
  footI : ∀ k G W, I k G W → ∀ g, G g → g < W.heap.size
  footM : ∀ k G W, M k G W → ∀ g, G g → g < W.heap.size
  footK : ∀ k G W, K k G W → ∀ g, G g → g < W.heap.size
  keepI : ∀ k G L W W', I k G W → Wrote L W W' → Apart G L → (∀ g, L g → B ≤ g) → I k G W'
  keepM : ∀ k G L W W', M k G W → Wrote L W W' → Apart G L → (∀ g, L g → B ≤ g) → M k G W'
  keepK : ∀ k G L W W', K k G W → Wrote L W W' → Apart G L → (∀ g, L g → B ≤ g) → K k G W'
  code : ∀ (k : Nat) G W, I k G W → k < n → Calls Tryz.prog f1 (#[.int .i64 k] ++ l1) W fun e w' => e = .returned (.pointer (some (P k))) ∧ W = w'
  meet : ∀ (k : Nat) G W j ys, I k G W → k < n → ks k = 2 → (lineAt most there ks k).2 = ys ++ [j] → Calls Tryz.prog f2 (#[.int .i64 k, .int .i64 j] ++ l2) W (Hooked (M k) G W)
  take : ∀ (k : Nat) G W, I k G W → k < n → ks k = 2 → (lineAt most there ks k).2 = [] → 0 < (lineAt most there ks k).1 → Calls Tryz.prog f3 (#[.int .i64 k] ++ l3) W (Hooked (M k) G W)
  idle : ∀ (k : Nat) G W, I k G W → k < n → (ks k = 2 → (lineAt most there ks k).2 = [] ∧ ¬ 0 < (lineAt most there ks k).1) → M k G W
  cell : ∀ (k : Nat) G W, M k G W → k < n → (∃ x, W.cell? (P k) = some (.int .u8 x)) ∧ W.frozen? (P k) = false ∧ G (P k).block
  store : ∀ (k : Nat) G W, M k G W → k < n → I (k + 1) G (W.setCell (P k) (.int .u8 (lineC most (lineAt most there ks k) (ks k))))
  turn : ∀ G W, I n G W → K 0 G W
  stay : ∀ (j : Nat) G W x, K j G W → (lineAt most there ks n).2[j]? = some x → Calls Tryz.prog f4 (#[.int .i64 x] ++ l4) W (Hooked (K (j + 1)) G W)

def StV (B : Nat) (w0 : World) (G0 : Nat → Prop) (p : Nat) (v : Value) (most : Int) (s : Int × List Int) (Q : (Nat → Prop) → World → Prop) (w : World) : Prop :=
  ∃ L G, LinV w p v most s.1 s.2 ∧ L p ∧ (∀ g, v.ownBlock = some g → L g) ∧ (∀ g, L g → g < w.heap.size) ∧ Q G w ∧ Apart L G ∧ Wrote G0 w0 w ∧ Later G0 G w0 ∧ Later G0 L w0 ∧ (∀ g, L g → B ≤ g) ∧ B ≤ w.heap.size
def St (B : Nat) (w0 : World) (G0 : Nat → Prop) (p : Nat) (most : Int) (s : Int × List Int) (Q : (Nat → Prop) → World → Prop) (w : World) : Prop := ∃ v, StV B w0 G0 p v most s Q w

section
variable {B : Nat} {w0 w w' : World} {G0 : Nat → Prop} {p : Nat} {v : Value} {most : Int} {s : Int × List Int} {Q Q' : (Nat → Prop) → World → Prop}

theorem StV.line (h : StV B w0 G0 p v most s Q w) : LinV w p v most s.1 s.2 := by obtain ⟨L, G, m, _⟩ := h; exact m
theorem StV.wrote (h : StV B w0 G0 p v most s Q w) : Wrote G0 w0 w := by obtain ⟨L, G, _, _, _, _, _, _, h7, _⟩ := h; exact h7
theorem StV.imp (h : StV B w0 G0 p v most s Q w) (hi : ∀ G, Q G w → Q' G w) : StV B w0 G0 p v most s Q' w := by
  obtain ⟨L, G, h1, h2, h3, h4, h5, h6⟩ := h
  exact ⟨L, G, h1, h2, h3, h4, hi G h5, h6⟩
theorem StV.fresh (h : StV B w0 G0 p v most s Q w) (keep : ∀ G L W W', Q G W → Wrote L W W' → Apart G L → (∀ g, L g → B ≤ g) → Q G W') (hb : Below w.heap.size w w') : StV B w0 G0 p v most s Q w' := by
  obtain ⟨L, G, h1, h2, h3, h4, h5, h6, h7, h8, h9, h10, h11⟩ := h
  have hw := Wrote.of hb (fun _ => False)
  exact ⟨L, G, h1.keep (hb.block _ h1.lt) (fun g hg => hb.block _ (h4 g (h3 g hg))), h2, h3, fun g hg => Nat.lt_of_lt_of_le (h4 g hg) hb.size, keep G _ _ _ h5 hw (fun _ _ h => h) (fun _ h => h.elim), h6, h7.trans (Wrote.of hb G0), h8, h9, h10, Nat.le_trans h11 hb.size⟩
theorem StV.call (h : StV B w0 G0 p v most s Q w) {f : Nat} {args : Array Value} (C : ∀ G, Q G w → Calls Tryz.prog f args w (Hooked Q' G w)) :
    Calls Tryz.prog f args w fun e w' => e = .returned (.tuple #[]) ∧ StV B w0 G0 p v most s Q' w' := by
  obtain ⟨L, G, h1, h2, h3, h4, h5, h6, h7, h8, h9, h10, h11⟩ := h
  refine (C G h5).mono ?_
  rintro e w' ⟨he, G', q, wr, lt⟩
  refine ⟨he, L, G', h1.keep (wr.block _ h1.lt (h6 p h2)) (fun g hg => wr.block _ (h4 g (h3 g hg)) (h6 g (h3 g hg))), h2, h3, fun g hg => Nat.lt_of_lt_of_le (h4 g hg) wr.size, q, (lt.apart h6.symm h4).symm, h7.step h8 wr, h8.trans lt h7.size, h9, h10, Nat.le_trans h11 wr.size⟩
theorem StV.own (h : StV B w0 G0 p v most s Q w) (keep : ∀ G L W W', Q G W → Wrote L W W' → Apart G L → (∀ g, L g → B ≤ g) → Q G W') (foot : ∀ G W, Q G W → ∀ g, G g → g < W.heap.size) {t : Int} {ps : List Int} {f : Nat} {args : Array Value} {r : Value}
    (C : ∀ L, Lin w L p most s.1 s.2 → Calls Tryz.prog f args w fun e w' => e = .returned r ∧ LDid L p most t ps w w') :
    Calls Tryz.prog f args w fun e w' => e = .returned r ∧ St B w0 G0 p most (t, ps) Q w' := by
  obtain ⟨L, G, h1, h2, h3, h4, h5, h6, h7, h8, h9, h10, h11⟩ := h
  refine (C L ⟨v, h1, h2, h3, h4⟩).mono ?_
  rintro e w' ⟨he, L', ⟨v', m', k2, k3, k4⟩, wr, lt⟩
  refine ⟨he, v', L', G, m', k2, k3, k4, keep G _ _ _ h5 wr h6.symm h10, lt.apart h6 (foot G _ h5), h7.step h9 wr, h8, h9.trans lt h7.size, fun g hg => ?_, Nat.le_trans h11 wr.size⟩
  rcases lt g hg with h | h
  · exact h10 g h
  · omega
theorem StV.cut {g cap k : Nat} {y : Int} {t : Int} {ps : List Int} (h : StV B w0 G0 p (.slice (some ⟨g, 0, none⟩) (k + 1) cap) most (t, ps ++ [y]) Q w) (hk : k = ps.length) (keep : ∀ G L W W', Q G W → Wrote L W W' → Apart G L → (∀ g, L g → B ≤ g) → Q G W') :
    St B w0 G0 p most (t, ps) Q (w.setCell ⟨p, 2, none⟩ (.slice (some ⟨g, 0, none⟩) k cap)) := by
  obtain ⟨L, G, h1, h2, h3, h4, h5, h6, h7, h8, h9, h10, h11⟩ := h
  subst hk
  have ho := h1.own
  simp only [List.length_append, List.length_cons, List.length_nil, Nat.zero_add] at ho
  have hc := own_cut ho (Nat.le_succ ps.length)
  have wr : Wrote L w (w.setCell ⟨p, 2, none⟩ (.slice (some ⟨g, 0, none⟩) ps.length cap)) := (Wrote.refl L w).setCell (.inr h2) _
  refine ⟨_, L, G, h1.setList (v' := .slice (some ⟨g, 0, none⟩) ps.length cap) (by simpa [List.take_append] using hc) h1.ne, h2, ?_, by simpa [World.setCell] using h4, keep G _ _ _ h5 wr h6.symm h10, h6, h7.step h9 wr, h8, h9, h10, Nat.le_trans h11 wr.size⟩
  intro g' hg'
  simp only [Value.ownBlock, Option.some.injEq] at hg'
  subst hg'
  exact h3 g rfl
theorem StV.less (h : StV B w0 G0 p v most s Q w) (keep : ∀ G L W W', Q G W → Wrote L W W' → Apart G L → (∀ g, L g → B ≤ g) → Q G W') (t : Int) : St B w0 G0 p most (t, s.2) Q (w.setCell ⟨p, 1, none⟩ (.int .i64 t)) := by
  obtain ⟨L, G, h1, h2, h3, h4, h5, h6, h7, h8, h9, h10, h11⟩ := h
  have wr : Wrote L w (w.setCell ⟨p, 1, none⟩ (.int .i64 t)) := (Wrote.refl L w).setCell (.inr h2) _
  exact ⟨v, L, G, h1.setThere t, h2, h3, by simpa [World.setCell] using h4, keep G _ _ _ h5 wr h6.symm h10, h6, h7.step h9 wr, h8, h9, h10, Nat.le_trans h11 wr.size⟩
theorem StV.rebase (h : StV B w0 G0 p v most s Q w) (keep : ∀ G L W W', Q G W → Wrote L W W' → Apart G L → (∀ g, L g → B ≤ g) → Q G W') (foot : ∀ G W, Q G W → ∀ g, G g → g < W.heap.size) :
    ∃ U, (∀ g, U g → g < w.heap.size) ∧ Later G0 U w0 ∧ (∀ w2, Below w.heap.size w w2 → StV B w2 U p v most s Q w2) ∧ ∀ w2 w' s' Q', Below w.heap.size w w2 → St B w2 U p most s' Q' w' → St B w0 G0 p most s' Q' w' := by
  obtain ⟨L, G, h1, h2, h3, h4, h5, h6, h7, h8, h9, h10, h11⟩ := h
  have hU : Later G0 (fun g => L g ∨ G g) w0 := fun g hg => by
    rcases hg with h | h
    · exact h9 g h
    · exact h8 g h
  refine ⟨fun g => L g ∨ G g, fun g hg => ?_, hU, fun w2 hb => ?_, fun w2 w' s' Q' hb k => ?_⟩
  · rcases hg with h | h
    · exact h4 g h
    · exact foot G w h5 g h
  · exact ⟨L, G, h1.keep (hb.block _ h1.lt) (fun g hg => hb.block _ (h4 g (h3 g hg))), h2, h3, fun g hg => Nat.lt_of_lt_of_le (h4 g hg) hb.size, keep G _ _ _ h5 (Wrote.of hb (fun _ => False)) (fun _ _ h => h) (fun _ h => h.elim), h6, Wrote.refl _ _, fun _ h => .inl (.inr h), fun _ h => .inl (.inl h), h10, Nat.le_trans h11 hb.size⟩
  · obtain ⟨v', L', G', k1, k2, k3, k4, k5, k6, k7, k8, k9, k10, k11⟩ := k
    have hs : w0.heap.size ≤ w2.heap.size := Nat.le_trans h7.size hb.size
    exact ⟨v', L', G', k1, k2, k3, k4, k5, k6, (h7.trans (Wrote.of hb G0)).step hU k7, hU.trans k8 hs, hU.trans k9 hs, k10, k11⟩
theorem StV.ask (h : StV B w0 G0 p v most s Q w) {f : Nat} {args : Array Value} {R : Ending → World → Prop} (C : ∀ G, Q G w → Calls Tryz.prog f args w R) : Calls Tryz.prog f args w R := by
  obtain ⟨L, G, _, _, _, _, h5, _⟩ := h
  exact C G h5
theorem St.put (h : St B w0 G0 p most s Q w) {a : Addr} {x : Value} (foot : ∀ G W, Q' G W → ∀ g, G g → g < W.heap.size) (hs : ∀ G, Q G w → G a.block ∧ Q' G (w.setCell a x)) : St B w0 G0 p most s Q' (w.setCell a x) := by
  obtain ⟨v, L, G, h1, h2, h3, h4, h5, h6, h7, h8, h9, h10, h11⟩ := h
  obtain ⟨k1, k2⟩ := hs G h5
  have wr : Wrote G w (w.setCell a x) := (Wrote.refl G w).setCell (.inr k1) _
  exact ⟨v, L, G, h1.keep (wr.block _ h1.lt (h6 p h2)) (fun g hg => wr.block _ (h4 g (h3 g hg)) (h6 g (h3 g hg))), h2, h3, fun g hg => Nat.lt_of_lt_of_le (h4 g hg) wr.size, k2, h6, h7.step h8 wr, h8, h9, h10, Nat.le_trans h11 wr.size⟩
end

theorem tellsBox (w : World) (f1 f2 f3 f4 : Nat) (l1 l2 l3 l4 : Array Value) : ∀ W, w.alloc (.cells #[.func (.func f1) #[] l1, .func (.func f2) #[] l2, .func (.func f3) #[] l3, .func (.func f4) #[] l4] 230) = W →
    W.cell? ⟨w.heap.size, 0, none⟩ = some (.func (.func f1) #[] l1) ∧ W.cell? ⟨w.heap.size, 1, none⟩ = some (.func (.func f2) #[] l2) ∧ W.cell? ⟨w.heap.size, 2, none⟩ = some (.func (.func f3) #[] l3) ∧ W.cell? ⟨w.heap.size, 3, none⟩ = some (.func (.func f4) #[] l4) ∧ Below w.heap.size w W := by
  rintro W rfl
  refine ⟨?_, ?_, ?_, ?_, (Below.refl _ _).alloc (Nat.le_refl _) _⟩
  all_goals go_simp

section
variable {B n : Nat} {most there : Int} {ks : Nat → Int} {f1 f2 f3 f4 : Nat} {l1 l2 l3 l4 : Array Value} {P : Nat → Addr} {I M K : Nat → (Nat → Prop) → World → Prop} {w0 w : World} {G0 : Nat → Prop} {p : Nat}

set_option maxRecDepth 100000 in
set_option maxHeartbeats 3200000 in
theorem lpopMeet (H : Hooks B n most there ks f1 f2 f3 f4 l1 l2 l3 l4 P I M K) {k : Nat} {t j : Int} {ys : List Int} (hk : k < n) (hkd : ks k = 2) (hs : lineAt most there ks k = (t, ys ++ [j])) (h : St B w0 G0 p most (t, ys ++ [j]) (I k) w) :
    Calls Tryz.prog 175 #[.pointer (some ⟨p, 0, none⟩), .int .i64 k, tellsV f1 f2 f3 f4 l1 l2 l3 l4] w fun e w' => e = .returned (.int .u8 2) ∧ St B w0 G0 p most (t, ys) (M k) w' := by
  have HO := Lib.hid (lineAt_ok H.low H.high ks k)
  obtain ⟨v, h⟩ := h
  have m := h.line
  obtain ⟨q, hq⟩ : ∃ q, q = ys.length := ⟨_, rfl⟩
  have hl : (ys ++ [j]).length = q + 1 := by simp [hq]
  have hq1 : q ≤ 1000 := by have := HO.out.room; have := HO.out.low; have := H.top; rw [hs] at *; simp at *; omega
  have ho := m.own
  simp only [hl] at ho
  rcases ho.2 with ⟨_, e⟩ | ⟨g, cap, cur, rfl, _, hg, hle, _⟩
  · omega
  · have cy := ho.cellAt q (by omega)
    have hy : ((ys ++ [j]).map (Value.int .i64))[q]? = some (.int .i64 j) := by subst hq; simp
    rw [hy] at cy
    have HH := Lib.hid H
    have HS := Lib.hid (show (lineAt most there ks k).2 = ys ++ [j] by rw [hs])
    have HQ := Lib.hid hq
    have HK := Lib.hid hkd
    clear m ho hg hl hy hs hq hkd H
    unfold tellsV
    go_enter Tryz.func175, Tryz.ntmps175
    go_upto_region 1 with (fail)
    generalize hW : w.alloc (.cells #[.func (.func f1) #[] l1, .func (.func f2) #[] l2, .func (.func f3) #[] l3, .func (.func f4) #[] l4] 230) = W
    obtain ⟨b1, b2, b3, b4, hb⟩ := tellsBox w f1 f2 f3 f4 l1 l2 l3 l4 W hW
    have cy2 := (hb.cell (p := ⟨g, q, none⟩) (World.block_lt_of_cell? w _ cy)).trans cy
    have h2 := h.fresh (HH.out.keepI k) hb
    clear hW h cy b1 b3 b4 hb
    have c2 := h2.line.c2
    have HT := Lib.hid h2
    clear h2
    obtain ⟨r, hr⟩ : ∃ r, q + 1 = r := ⟨_, rfl⟩
    have e1 : IntKind.i64.wrap ((r : Int) - 1) = (q : Int) := by rw [IntKind.wrap_i64]; omega
    have q0 : (0 : Int) ≤ (q : Int) := by omega
    have q1 : (q : Int) < (r : Int) := by omega
    rw [hr] at c2 hle
    have HR := Lib.hid hr
    clear hr
    go_wp2
    go_still_tail 10, (by kernel_rfl)
    clear b2 cy2 e1
    change wpList _ _ _ _ _ W.drew
    have HT2 := Lib.hid (HT.out.fresh (HH.out.keepI k) (Below.refl _ _).drew)
    have C := HT2.out.call (Q' := M k) (fun G hI => HH.out.meet k G W.drew j ys hI hk HK.out HS.out)
    clear HT c2
    generalize W.drew = W2 at *
    have hE := HH.out.e2
    unfold Enters at hE
    go_wp2_with fail
    refine C.mono ?_
    clear C hE
    rintro e w3 ⟨rfl, h3⟩
    have c2 := h3.line.c2
    have fz := h3.line.f 2
    have HT3 := Lib.hid h3
    clear h3 HT2
    have q2 : (q : Int) ≤ (cap : Int) := by omega
    go_wp2
    go_ret
    exact ⟨rfl, HT3.out.cut HQ.out (HH.out.keepM k)⟩

set_option maxRecDepth 100000 in
set_option maxHeartbeats 3200000 in
theorem lpopTake (H : Hooks B n most there ks f1 f2 f3 f4 l1 l2 l3 l4 P I M K) {k : Nat} {t : Int} (hk : k < n) (hkd : ks k = 2) (hs : lineAt most there ks k = (t, [])) (ht : 0 < t) (h : St B w0 G0 p most (t, []) (I k) w) :
    Calls Tryz.prog 175 #[.pointer (some ⟨p, 0, none⟩), .int .i64 k, tellsV f1 f2 f3 f4 l1 l2 l3 l4] w fun e w' => e = .returned (.int .u8 2) ∧ St B w0 G0 p most (t - 1, []) (M k) w' := by
  have HO := Lib.hid (lineAt_ok H.low H.high ks k)
  obtain ⟨v, h⟩ := h
  have ht1 : t ≤ 1000 := by have := HO.out.room; have := H.top; rw [hs] at *; simp at *; omega
  obtain ⟨ao, cap, rfl⟩ := ownShape h.line.own
  have HH := Lib.hid H
  have HS := Lib.hid (And.intro (show (lineAt most there ks k).2 = [] by rw [hs]) (show 0 < (lineAt most there ks k).1 by rw [hs]; exact ht))
  have HK := Lib.hid hkd
  clear hs hkd H HO
  unfold tellsV
  go_enter Tryz.func175, Tryz.ntmps175
  go_upto_region 1 with (fail)
  generalize hW : w.alloc (.cells #[.func (.func f1) #[] l1, .func (.func f2) #[] l2, .func (.func f3) #[] l3, .func (.func f4) #[] l4] 230) = W
  obtain ⟨b1, b2, b3, b4, hb⟩ := tellsBox w f1 f2 f3 f4 l1 l2 l3 l4 W hW
  have h2 := h.fresh (HH.out.keepI k) hb
  clear hW h b1 b2 b4 hb
  have c1 := h2.line.c1
  have c2 := h2.line.c2
  simp only [List.length_nil] at c1 c2
  have C := h2.call (Q' := M k) (fun G hI => HH.out.take k G W hI hk HK.out HS.out.1 HS.out.2)
  clear h2
  have hE := HH.out.e3
  unfold Enters at hE
  have t2 : IntKind.i64.wrap (t - 1) = t - 1 := IntWalk.i64_in _ (by omega)
  go_wp2_with fail
  refine C.mono ?_
  clear C hE c1 c2
  rintro e w3 ⟨rfl, h3⟩
  have c1 := h3.line.c1
  have fz := h3.line.f 1
  have HT3 := Lib.hid h3
  clear h3
  go_wp2
  go_ret
  exact ⟨rfl, HT3.out.less (HH.out.keepM k) (t - 1)⟩

set_option maxRecDepth 100000 in
set_option maxHeartbeats 3200000 in
theorem lpopNone (H : Hooks B n most there ks f1 f2 f3 f4 l1 l2 l3 l4 P I M K) {k : Nat} {t : Int} (hk : k < n) (_hkd : ks k = 2) (hs : lineAt most there ks k = (t, [])) (ht : ¬ 0 < t) (h : St B w0 G0 p most (t, []) (I k) w) :
    Calls Tryz.prog 175 #[.pointer (some ⟨p, 0, none⟩), .int .i64 k, tellsV f1 f2 f3 f4 l1 l2 l3 l4] w fun e w' => e = .returned (.int .u8 4) ∧ St B w0 G0 p most (t, []) (M k) w' := by
  obtain ⟨v, h⟩ := h
  obtain ⟨ao, cap, rfl⟩ := ownShape h.line.own
  have HH := Lib.hid H
  have HI := Lib.hid (h.imp (Q' := M k) (fun G hI => H.idle k G w hI hk (fun _ => by rw [hs]; exact ⟨rfl, ht⟩)))
  clear hs H h
  unfold tellsV
  go_enter Tryz.func175, Tryz.ntmps175
  go_upto_region 1 with (fail)
  generalize hW : w.alloc (.cells #[.func (.func f1) #[] l1, .func (.func f2) #[] l2, .func (.func f3) #[] l3, .func (.func f4) #[] l4] 230) = W
  obtain ⟨b1, b2, b3, b4, hb⟩ := tellsBox w f1 f2 f3 f4 l1 l2 l3 l4 W hW
  have h2 := HI.out.fresh (HH.out.keepM k) hb
  clear hW b1 b2 b3 b4 hb HI
  have c1 := h2.line.c1
  have c2 := h2.line.c2
  simp only [List.length_nil] at c1 c2
  have HT := Lib.hid h2
  clear h2
  go_wp2
  go_ret
  exact ⟨rfl, _, HT.out⟩

theorem lineStep_push {s : Int × List Int} (h : s.1 + s.2.length < most) (k : Int) : lineStep most s k 1 = (s.1, s.2 ++ [k]) ∧ lineC most s 1 = 1 := by simp [lineStep, lineC, h]
theorem lineStep_full {s : Int × List Int} (h : ¬ s.1 + s.2.length < most) (k : Int) : lineStep most s k 1 = s ∧ lineC most s 1 = 3 := by simp [lineStep, lineC, h]
theorem lineStep_meet {t j : Int} {ys : List Int} (k : Int) : lineStep most (t, ys ++ [j]) k 2 = (t, ys) ∧ lineC most (t, ys ++ [j]) 2 = 2 := by simp [lineStep, lineC]
theorem lineStep_take {t : Int} (h : 0 < t) (k : Int) : lineStep most (t, []) k 2 = (t - 1, []) ∧ lineC most (t, []) 2 = 2 := by simp [lineStep, lineC, h]
theorem lineStep_none {t : Int} (h : ¬ 0 < t) (k : Int) : lineStep most (t, []) k 2 = (t, []) ∧ lineC most (t, []) 2 = 4 := by simp [lineStep, lineC, h]
theorem lineStep_bad {s : Int × List Int} {kind : Int} (h1 : kind ≠ 1) (h2 : kind ≠ 2) (k : Int) : lineStep most s k kind = s ∧ lineC most s kind = 5 := by simp [lineStep, lineC, h1, h2]

set_option maxRecDepth 100000 in
set_option maxHeartbeats 6400000 in
theorem ldoAny (H : Hooks B n most there ks f1 f2 f3 f4 l1 l2 l3 l4 P I M K) {k : Nat} (hk : k < n) {kind : Int} (hkd : ks k = kind) (h : St B w0 G0 p most (lineAt most there ks k) (I k) w) :
    Calls Tryz.prog 173 #[.pointer (some ⟨p, 0, none⟩), .int .i64 k, .int .u8 kind, tellsV f1 f2 f3 f4 l1 l2 l3 l4] w fun e w' =>
      e = .returned (.int .u8 (lineC most (lineAt most there ks k) kind)) ∧ St B w0 G0 p most (lineAt most there ks (k + 1)) (M k) w' := by
  have HO := Lib.hid (lineAt_ok H.low H.high ks k)
  have HN := Lib.hid (show lineAt most there ks (k + 1) = lineStep most (lineAt most there ks k) k kind by rw [← hkd]; rfl)
  obtain ⟨t, ps, hs⟩ : ∃ t ps, lineAt most there ks k = (t, ps) := ⟨_, _, rfl⟩
  have o1 : 0 ≤ t := by have := HO.out.low; rw [hs] at this; exact this
  have o2 : t + ps.length ≤ most := by have := HO.out.room; rw [hs] at this; exact this
  have o3 : most ≤ 1000 := H.top
  have o4 : t + (ps.length : Int) ≤ 1000 := by omega
  rw [hs] at h
  rw [HN.out, hs]
  have HS := Lib.hid hs
  have HH := Lib.hid H
  have HKD := Lib.hid hkd
  clear hs H HN HO hkd
  obtain ⟨W, hW⟩ : ∃ W, w.alloc (.cells #[.func (.func f1) #[] l1, .func (.func f2) #[] l2, .func (.func f3) #[] l3, .func (.func f4) #[] l4] 230) = W := ⟨_, rfl⟩
  obtain ⟨b1, b2, b3, b4, hb⟩ := tellsBox w f1 f2 f3 f4 l1 l2 l3 l4 W hW
  obtain ⟨v, h⟩ := h
  have HT := Lib.hid (show StV B w0 G0 p v most (t, ps) (I k) W from h.fresh (HH.out.keepI k) hb)
  have HW := Lib.hid hW
  clear h hb hW
  unfold tellsV
  by_cases k1 : kind = 1
  · subst k1
    have HM := Lib.hid (HT.out.imp (Q' := M k) (fun G hI => HH.out.idle k G W hI hk (fun e => by have := HKD.out; omega)))
    clear b1 b2 b3 b4
    by_cases hf : t + ps.length < most
    · have HE := Lib.hid (lineStep_push (s := (t, ps)) hf k)
      rw [HE.out.1, HE.out.2]
      have C := HM.out.own (HH.out.keepM k) (HH.out.footM k) (fun L hL => lpushOk hL k o1 o4 hf)
      go_enter Tryz.func173, Tryz.ntmps173
      go_upto_region 1 with (fail)
      rw [HW.out]
      go_wp2_with fail
      refine C.mono ?_
      clear C
      rintro e w3 ⟨rfl, h3⟩
      have H3 := Lib.hid h3
      clear h3
      go_wp2
      go_ret
      exact ⟨rfl, H3.out⟩
    · have HE := Lib.hid (lineStep_full (s := (t, ps)) hf k)
      rw [HE.out.1, HE.out.2]
      have C : Calls Tryz.prog 174 #[.pointer (some ⟨p, 0, none⟩), .int .i64 k] W fun e w' => e = .returned (.int .u8 3) ∧ St B w0 G0 p most (t, ps) (M k) w' := by
        obtain ⟨L, G, m, q2, q3, q4, _⟩ := id HM.out
        refine (lpushFull ⟨v, m, q2, q3, q4⟩ k o1 o4 hf).mono ?_
        rintro e w' ⟨he, q, rfl⟩
        exact ⟨he, v, HM.out.fresh (HH.out.keepM k) (below_drewN (Below.refl _ _) _)⟩
      go_enter Tryz.func173, Tryz.ntmps173
      go_upto_region 1 with (fail)
      rw [HW.out]
      go_wp2_with fail
      refine C.mono ?_
      clear C
      rintro e w3 ⟨rfl, h3⟩
      have H3 := Lib.hid h3
      clear h3
      go_wp2
      go_ret
      exact ⟨rfl, H3.out⟩
  · by_cases k2 : kind = 2
    · subst k2
      clear k1
      rcases List.eq_nil_or_concat ps with e | ⟨ys, j, e⟩
      · subst e
        by_cases ht : 0 < t
        · have HE := Lib.hid (lineStep_take (most := most) ht k)
          rw [HE.out.1, HE.out.2]
          have C := lpopTake HH.out hk HKD.out HS.out ht ⟨v, HT.out⟩
          unfold tellsV at C
          go_enter Tryz.func173, Tryz.ntmps173
          go_upto_region 1 with (fail)
          rw [HW.out]
          go_wp2_with fail
          refine C.mono ?_
          clear C
          rintro e w3 ⟨rfl, h3⟩
          have H3 := Lib.hid h3
          clear h3
          go_wp2
          go_ret
          exact ⟨rfl, H3.out⟩
        · have HE := Lib.hid (lineStep_none (most := most) ht k)
          rw [HE.out.1, HE.out.2]
          have C := lpopNone HH.out hk HKD.out HS.out ht ⟨v, HT.out⟩
          unfold tellsV at C
          go_enter Tryz.func173, Tryz.ntmps173
          go_upto_region 1 with (fail)
          rw [HW.out]
          go_wp2_with fail
          refine C.mono ?_
          clear C
          rintro e w3 ⟨rfl, h3⟩
          have H3 := Lib.hid h3
          clear h3
          go_wp2
          go_ret
          exact ⟨rfl, H3.out⟩
      · rw [List.concat_eq_append] at e
        subst e
        have HE := Lib.hid (lineStep_meet (most := most) (t := t) (ys := ys) (j := j) k)
        rw [HE.out.1, HE.out.2]
        have C := lpopMeet HH.out hk HKD.out HS.out ⟨v, HT.out⟩
        unfold tellsV at C
        go_enter Tryz.func173, Tryz.ntmps173
        go_upto_region 1 with (fail)
        rw [HW.out]
        go_wp2_with fail
        refine C.mono ?_
        clear C
        rintro e w3 ⟨rfl, h3⟩
        have H3 := Lib.hid h3
        clear h3
        go_wp2
        go_ret
        exact ⟨rfl, H3.out⟩
    · have HE := Lib.hid (lineStep_bad (most := most) (s := (t, ps)) k1 k2 k)
      rw [HE.out.1, HE.out.2]
      have k3 : (kind == 1) = false := by simpa using k1
      have k4 : (kind == 2) = false := by simpa using k2
      have H3 := Lib.hid (show St B w0 G0 p most (t, ps) (M k) W from ⟨v, HT.out.imp (fun G hI => HH.out.idle k G W hI hk (fun e => absurd (HKD.out.symm.trans e) k2))⟩)
      clear k1 k2 b1 b2 b3 b4
      go_enter Tryz.func173, Tryz.ntmps173
      go_upto_region 1 with (fail)
      rw [HW.out]
      go_wp2
      go_ret
      exact ⟨rfl, H3.out⟩
end

end Go.Proofs.YtikaoikladbdpaaGreat.K9
namespace Go.Proofs.YtikaoikladbdpaaGreat.K9
open Go.RowKit

def TBox (w : World) (b : Nat) (f1 f2 f3 f4 : Nat) (l1 l2 l3 l4 : Array Value) : Prop := w.heap[b]? = some (.cells #[.func (.func f1) #[] l1, .func (.func f2) #[] l2, .func (.func f3) #[] l3, .func (.func f4) #[] l4] 230 (0, 0))
section
variable {w w' : World} {b f1 f2 f3 f4 : Nat} {l1 l2 l3 l4 : Array Value}
theorem TBox.new (w : World) (f1 f2 f3 f4 : Nat) (l1 l2 l3 l4 : Array Value) : ∀ W, w.alloc (.cells #[.func (.func f1) #[] l1, .func (.func f2) #[] l2, .func (.func f3) #[] l3, .func (.func f4) #[] l4] 230) = W → TBox W w.heap.size f1 f2 f3 f4 l1 l2 l3 l4 ∧ Below w.heap.size w W ∧ W.heap.size = w.heap.size + 1 := by
  rintro W rfl
  exact ⟨heap_alloc_new w _, (Below.refl _ _).alloc (Nat.le_refl _) _, by simp⟩
theorem TBox.lt (h : TBox w b f1 f2 f3 f4 l1 l2 l3 l4) : b < w.heap.size := lt_of_block h
theorem TBox.keep (h : TBox w b f1 f2 f3 f4 l1 l2 l3 l4) (hb : w'.heap[b]? = w.heap[b]?) : TBox w' b f1 f2 f3 f4 l1 l2 l3 l4 := hb.trans h
theorem TBox.cells (h : TBox w b f1 f2 f3 f4 l1 l2 l3 l4) : w.cell? ⟨b, 0, none⟩ = some (.func (.func f1) #[] l1) ∧ w.cell? ⟨b, 1, none⟩ = some (.func (.func f2) #[] l2) ∧ w.cell? ⟨b, 2, none⟩ = some (.func (.func f3) #[] l3) ∧ w.cell? ⟨b, 3, none⟩ = some (.func (.func f4) #[] l4) := by
  unfold TBox at h
  refine ⟨?_, ?_, ?_, ?_⟩ <;> simp [World.cell?, h]
end
def OBx (w : World) (b : Nat) (k x : Int) : Prop := w.heap[b]? = some (.cells #[.int .u8 k, .int .i32 x] 38 (0, 0))
theorem OBx.c0 {w : World} {b : Nat} {k x : Int} (h : OBx w b k x) : w.cell? ⟨b, 0, none⟩ = some (.int .u8 k) := by unfold OBx at h; simp [World.cell?, h]

section
variable {B n : Nat} {most there : Int} {ks : Nat → Int} {f1 f2 f3 f4 : Nat} {l1 l2 l3 l4 : Array Value} {P : Nat → Addr} {I M K : Nat → (Nat → Prop) → World → Prop} {w0 w : World} {G0 : Nat → Prop} {p : Nat}

set_option maxRecDepth 100000 in
set_option maxHeartbeats 3200000 in
theorem lclose (H : Hooks B n most there ks f1 f2 f3 f4 l1 l2 l3 l4 P I M K) (u : FrameMode) (h : St B w0 G0 p most (lineAt most there ks n) (K 0) w) :
    CallsD Tryz.prog 172 #[.pointer (some ⟨p, 0, none⟩), .func (.func f4) #[] l4] u w fun e u' w' => u' = u ∧ (e = .returned (.tuple #[]) ∧ St B w0 G0 p most (lineAt most there ks n) (K (lineAt most there ks n).2.length) w') := by
  obtain ⟨t, ps, hs⟩ : ∃ t ps, lineAt most there ks n = (t, ps) := ⟨_, _, rfl⟩
  have HO := Lib.hid (lineAt_ok H.low H.high ks n)
  have hl : ps.length ≤ 1000 := by have := HO.out.room; have := HO.out.low; have := H.top; rw [hs] at *; simp at *; omega
  rw [hs] at h ⊢
  have HS := Lib.hid (show (lineAt most there ks n).2 = ps by rw [hs])
  have HH := Lib.hid H
  obtain ⟨v, h⟩ := h
  have c2 := h.line.c2
  obtain ⟨ao, cap, rfl⟩ := ownShape h.line.own
  simp only at c2
  have HT := Lib.hid h
  clear hs h H HO
  obtain ⟨m, hm⟩ : ∃ m, ps.length = m := ⟨_, rfl⟩
  simp only [hm] at c2 HT hl ⊢
  have HM := Lib.hid hm
  clear hm
  go_enter_d Tryz.func172, Tryz.ntmps172
  go_wp2
  clear c2
  go_loopw [11] (fun i wr => ∃ j : Nat, j ≤ m ∧ i = .int .i64 j ∧ Hid (StV B w0 G0 p (.slice ao m cap) most (t, ps) (K j) wr)) (fun i _ => m - (intOf i).toNat)
  case atStart => exact ⟨0, Nat.zero_le _, rfl, HT⟩
  case round =>
    obtain ⟨j, hj, rfl, hst⟩ := hrel
    clear HT
    by_cases hlt : j < m
    · have ho := hst.out.line.own
      simp only [HM.out] at ho
      rcases ho.2 with ⟨_, e⟩ | ⟨g, cap', cur, ec, _⟩
      · omega
      · simp only [Value.slice.injEq] at ec
        obtain ⟨rfl, _, rfl⟩ := ec
        have c := ho.cellAt j (by omega)
        have hjl : j < ps.length := by rw [HM.out]; exact hlt
        have hx : (ps.map (Value.int .i64))[j]? = some (.int .i64 (ps.getD j 0)) := by simp [List.getD, hjl]
        rw [hx] at c
        have HX := Lib.hid (show (lineAt most there ks n).2[j]? = some (ps.getD j 0) by rw [HS.out]; simp [List.getD, hjl])
        clear hx hjl ho
        generalize ps.getD j 0 = x at *
        have C := hst.out.call (Q' := K (j + 1)) (fun G hK => HH.out.stay j G wr x hK HX.out)
        have hE := HH.out.e4
        unfold Enters at hE
        have i1 : (j : Int) < (m : Int) := by omega
        clear hst
        go_wp2_with fail
        refine C.mono ?_
        clear C hE c
        rintro e w3 ⟨rfl, h3⟩
        have HT3 := Lib.hid h3
        clear h3
        go_wp2
        go_roundw
        case rel => exact ⟨j + 1, by omega, by go_num, HT3⟩
        case measure => simp [intOf]; omega
    · obtain rfl : j = m := by omega
      go_wp2
      go_end0
      exact ⟨rfl, _, hst.out⟩

theorem St.cell {s : Int × List Int} {k : Nat} (H : Hooks B n most there ks f1 f2 f3 f4 l1 l2 l3 l4 P I M K) (st : St B w0 G0 p most s (M k) w) (hk : k < n) : (∃ x, w.cell? (P k) = some (.int .u8 x)) ∧ w.frozen? (P k) = false := by
  obtain ⟨v, L, G, _, _, _, _, h5, _⟩ := st
  obtain ⟨h1, h2, _⟩ := H.cell k G w h5 hk
  exact ⟨h1, h2⟩
theorem St.other {s : Int × List Int} {k : Nat} (H : Hooks B n most there ks f1 f2 f3 f4 l1 l2 l3 l4 P I M K) (st : St B w0 G0 p most s (M k) w) (hk : k < n) {b : Nat} (hb : b < w0.heap.size) (hn : ¬ G0 b) : b ≠ (P k).block := by
  obtain ⟨v, L, G, _, _, _, _, h5, _, _, h8, _⟩ := st
  rintro rfl
  rcases h8 _ (H.cell k G w h5 hk).2.2 with h | h
  · exact hn h
  · omega
theorem St.told {s : Int × List Int} {k : Nat} (H : Hooks B n most there ks f1 f2 f3 f4 l1 l2 l3 l4 P I M K) (st : St B w0 G0 p most s (M k) w) (hk : k < n) : St B w0 G0 p most s (I (k + 1)) (w.setCell (P k) (.int .u8 (lineC most (lineAt most there ks k) (ks k)))) :=
  st.put (H.footI (k + 1)) (fun G h => ⟨(H.cell k G w h hk).2.2, H.store k G w h hk⟩)
theorem st_imp {s : Int × List Int} {Q Q' : (Nat → Prop) → World → Prop} (st : St B w0 G0 p most s Q w) (hi : ∀ G W, Q G W → Q' G W) : St B w0 G0 p most s Q' w := by
  obtain ⟨v, st⟩ := st
  exact ⟨v, st.imp (fun G h => hi G w h)⟩
theorem stStart {W V : World} (hB : B ≤ W.heap.size) {Q : (Nat → Prop) → World → Prop} {t : Int} (keep : ∀ G L W W', Q G W → Wrote L W W' → Apart G L → (∀ g, L g → B ≤ g) → Q G W') (hF : ∀ g, G0 g → g < W.heap.size) (hQ : Q G0 W) (hV : W.alloc (.cells #[.int .i64 most, .int .i64 t, .slice none 0 0] 235) = V) :
    StV B W G0 W.heap.size (.slice none 0 0) most (t, []) Q V := by
  have hb : Below W.heap.size W V := by rw [← hV]; exact (Below.refl _ _).alloc (Nat.le_refl _) _
  have hz : V.heap.size = W.heap.size + 1 := by rw [← hV]; simp
  refine ⟨New W V, G0, ⟨by rw [← hV]; exact heap_alloc_new W _, World.ownsRow_nil _ _ _ _⟩, ⟨Nat.le_refl _, by omega⟩, by simp [Value.ownBlock], fun g hg => hg.2, keep G0 _ _ _ hQ (Wrote.of hb (fun _ => False)) (fun _ _ h => h) (fun _ h => h.elim), fun g h1 h2 => ?_, Wrote.of hb G0, Later.refl _ _, fun g hg => .inr hg.1, fun g hg => Nat.le_trans hB hg.1, Nat.le_trans hB hb.size⟩
  have := hF g h2
  have := h1.1
  omega

set_option maxRecDepth 100000 in
set_option maxHeartbeats 8000000 in
theorem throughAny (H : Hooks B n most there ks f1 f2 f3 f4 l1 l2 l3 l4 P I M K) (ao : Option Addr) (cap : Nat) (os : List (Int × Int)) (ho : OpsAt w ao n os) (hoff : 0 < n → Off G0 ao) (hks : ∀ i, i < n → ks i = (os.getD i (0, 0)).1) (hn : n ≤ 1000000) (hB : B ≤ w.heap.size) (h : I 0 G0 w) :
    Calls Tryz.prog 161 #[.int .i64 there, .int .i64 most, .slice ao n cap, tellsV f1 f2 f3 f4 l1 l2 l3 l4] w (Hooked (K (lineAt most there ks n).2.length) G0 w) := by
  have HF := Lib.hid (H.footI 0 G0 w h)
  obtain ⟨W, hW⟩ : ∃ W, w.alloc (.cells #[.func (.func f1) #[] l1, .func (.func f2) #[] l2, .func (.func f3) #[] l3, .func (.func f4) #[] l4] 230) = W := ⟨_, rfl⟩
  obtain ⟨tb, hb, hz⟩ := TBox.new w f1 f2 f3 f4 l1 l2 l3 l4 W hW
  have HW := Lib.hid hW
  have HO := Lib.hid (ho.keep hb)
  have hI := H.keepI 0 G0 _ _ _ h (Wrote.of hb (fun _ => False)) (fun _ _ h => h) (fun _ h => h.elim)
  have HI := Lib.hid hI
  have HH := Lib.hid H
  have HB := Lib.hid hb
  have HZ := Lib.hid hz
  have HOF := Lib.hid hoff
  have HKS := Lib.hid hks
  have HTB := Lib.hid tb
  have HL := Lib.hid ho.1
  clear hW ho h H hb hz hoff hks tb hI
  unfold tellsV
  go_enter_defers Tryz.func161, Tryz.ntmps161
  go_upto_region 1 with (fail)
  rw [HW.out]
  go_upto_region 2 with (fail)
  generalize hV : W.alloc (.cells #[.int .i64 most, .int .i64 there, .slice none 0 0] 235) = V
  have hbV : Below W.heap.size W V := by rw [← hV]; exact (Below.refl _ _).alloc (Nat.le_refl _) _
  have HS := Lib.hid (stStart (Nat.le_trans hB HB.out.size) (HH.out.keepI 0) (fun g hg => Nat.lt_of_lt_of_le (HF.out g hg) HB.out.size) HI.out hV)
  have HTV := Lib.hid (HTB.out.keep (hbV.block _ HTB.out.lt))
  have b4 := HTV.out.cells.2.2.2
  clear hV hbV
  go_wp2
  clear b4
  go_loopw [18] (fun i wr => ∃ k : Nat, k ≤ n ∧ i = .int .i64 k ∧ Hid (St B W G0 W.heap.size most (lineAt most there ks k) (I k) wr)) (fun i _ => n - (intOf i).toNat)
  case atStart => exact ⟨0, Nat.zero_le _, rfl, Lib.hid ⟨_, HS.out⟩⟩
  case round =>
    obtain ⟨k, hk, rfl, hst⟩ := hrel
    clear HS HTV
    by_cases hlt : k < n
    · obtain ⟨v, hv⟩ := hst.out
      have hwr := hv.wrote
      obtain ⟨U, hU1, hU2, hU3, hU4⟩ := hv.rebase (HH.out.keepI k) (HH.out.footI k)
      obtain ⟨ob, off, rfl, bl, hc⟩ := (HO.out.off (HOF.out (by omega)) hwr).2 (by omega)
      obtain ⟨c0, c1⟩ := hc k hlt
      have HKK := Lib.hid (HKS.out k hlt)
      have i1 : (k : Int) < (n : Int) := by omega
      have HT0 := Lib.hid (HTB.out.keep (hwr.block _ HTB.out.lt (fun e => by have := HF.out _ e; omega)))
      have HU1 := Lib.hid hU1
      have HU2 := Lib.hid hU2
      have HU3 := Lib.hid hU3
      have HU4 := Lib.hid hU4
      clear hc hv hwr hU1 hU2 hU3 hU4 hst
      generalize (os.getD k (0, 0)).1 = kd at *
      generalize (os.getD k (0, 0)).2 = kx at *
      go_upto_region 6 with (fail)
      generalize hV2 : wr.alloc (.cells #[.int .u8 kd, .int .i32 kx] 38) = V2
      have hb2 : Below wr.heap.size wr V2 := by rw [← hV2]; exact (Below.refl _ _).alloc (Nat.le_refl _) _
      have ob2 : OBx V2 wr.heap.size kd kx := by rw [← hV2]; exact heap_alloc_new wr _
      have tb2 := HT0.out.keep (hb2.block _ HT0.out.lt)
      have hs2 := HU3.out V2.drew hb2.drew
      have C1 := hs2.ask (fun G hI => HH.out.code k G _ hI hlt)
      have C2 := ldoAny HH.out hlt HKK.out ⟨v, hs2⟩
      unfold tellsV at C2
      have HB2 := Lib.hid hb2.drew
      have nU1 : ¬ U wr.heap.size := fun e => by have := HU1.out _ e; omega
      have nU2 : ¬ U w.heap.size := fun e => by
        rcases HU2.out _ e with h | h
        · have := HF.out _ h; omega
        · have := HZ.out; omega
      have HX := Lib.hid (fun w6 s' Q' (st : St B V2.drew U W.heap.size most s' Q' w6) => (show TBox w6 w.heap.size f1 f2 f3 f4 l1 l2 l3 l4 ∧ OBx w6 wr.heap.size kd kx from by
        obtain ⟨v6, st⟩ := st
        have hw := st.wrote
        exact ⟨tb2.keep (hw.block _ tb2.lt nU2), (hw.block _ (lt_of_block ob2) nU1).trans ob2⟩))
      obtain ⟨g0, g1, g2, g3⟩ := tb2.cells
      have g4 := ob2.c0
      have hE := HH.out.e1
      unfold Enters at hE
      have HN := Lib.hid (show (w.heap.size < V2.drew.heap.size ∧ ¬ U w.heap.size ∧ wr.heap.size < V2.drew.heap.size ∧ ¬ U wr.heap.size) from ⟨tb2.lt, nU2, lt_of_block ob2, nU1⟩)
      clear hs2 hb2 hV2 c0 c1 tb2 ob2 nU1 nU2
      go_region_held3 (fun w' => w'.cell? ⟨w.heap.size, 0, none⟩ = some (.func (.func f1) #[] l1) ∧ w'.cell? ⟨w.heap.size, 1, none⟩ = some (.func (.func f2) #[] l2) ∧ w'.cell? ⟨w.heap.size, 2, none⟩ = some (.func (.func f3) #[] l3) ∧ w'.cell? ⟨w.heap.size, 3, none⟩ = some (.func (.func f4) #[] l4) ∧ w'.cell? ⟨wr.heap.size, 0, none⟩ = some (.int .u8 kd)) (first | exact ⟨g0, g1, g2, g3, g4⟩ | exact ⟨h0, h1, h2, h3, h4⟩ | exact ⟨cellOther _ n1 h0, cellOther _ n1 h1, cellOther _ n1 h2, cellOther _ n1 h3, cellOther _ n2 h4⟩) (first
        | ((with_reducible refine C1.mono ?_); rintro e w5 ⟨rfl, rfl⟩)
        | ((with_reducible refine C2.mono ?_); rintro e w6 ⟨rfl, st6⟩; obtain ⟨⟨h0, h1, h2, h3⟩, hob⟩ := (show _ ∧ _ from ⟨(HX.out w6 _ _ st6).1.cells, (HX.out w6 _ _ st6).2⟩); have h4 := hob.c0; obtain ⟨⟨x6, cx⟩, fx⟩ := st6.cell HH.out hlt; have n1 := st6.other HH.out hlt HN.out.1 HN.out.2.1; have n2 := st6.other HH.out hlt HN.out.2.2.1 HN.out.2.2.2; have H6 := Lib.hid st6; clear hob st6))
      all_goals
        go_wp2
        go_roundw
        case rel =>
          have := (HU4.out _ _ _ _ HB2.out H6.out).told HH.out hlt
          rw [HKK.out] at this
          exact ⟨k + 1, by omega, by go_num, Lib.hid this⟩
        case measure => simp [intOf]; omega
    · obtain rfl : k = n := by omega
      have HS := hst
      clear hst
      go_wp2
      have hcl := lclose HH.out .returning (st_imp HS.out HH.out.turn)
      refine leaves_cons (f := 172) (args := #[.pointer (some ⟨W.heap.size, 0, none⟩), .func (.func f4) #[] l4]) (by simp) (by simp [go_sem]) ?_
      refine hcl.mono ?_
      rintro e u' w'' ⟨rfl, rfl, st⟩
      refine ⟨.tuple #[], by simp [results, Tryz.results161, go_sem], rfl, ?_⟩
      obtain ⟨v, L, G, _, _, _, _, h5, _, h7, h8, _⟩ := st
      exact ⟨G, h5, (Wrote.of HB.out G0).trans h7, (Later.refl G0 w).trans h8 HB.out.size⟩
end

end Go.Proofs.YtikaoikladbdpaaGreat.K9
namespace Go.Proofs.YtikaoikladbdpaaGreat.K9
open Go.RowKit

section
variable {w w' : World} {b : Nat} {k : IntKind} {t : TypeId} {xs : List Int}
end

def SBx (w : World) (B : Nat) (t : TypeId) (b n : Nat) : Prop := w.heap[B]? = some (.cells #[.slice (some ⟨b, 0, none⟩) n n] t (0, 0))
section
variable {w w' : World} {B b n : Nat} {t : TypeId}
theorem SBx.lt (h : SBx w B t b n) : B < w.heap.size := lt_of_block h
theorem SBx.keep (h : SBx w B t b n) (hb : w'.heap[B]? = w.heap[B]?) : SBx w' B t b n := hb.trans h
theorem SBx.cell (h : SBx w B t b n) : w.cell? ⟨B, 0, none⟩ = some (.slice (some ⟨b, 0, none⟩) n n) := by unfold SBx at h; simp [World.cell?, h]
theorem SBx.new (w : World) (t : TypeId) (b n : Nat) : SBx (w.alloc (.cells #[.slice (some ⟨b, 0, none⟩) n n] t)) w.heap.size t b n := heap_alloc_new w _
end

section
variable {most there : Int} {ks : Nat → Int} {n k : Nat}
end

def haveOf (x m : Int) : Int := if x < 0 then 0 else if m < x then m else x
theorem haveOf_in (x m : Int) (hm : 0 ≤ m) : 0 ≤ haveOf x m ∧ haveOf x m ≤ m := by unfold haveOf; split <;> (try split) <;> omega

def kindsOf (os : List (Int × Int)) (k : Nat) : Int := (os.getD k (0, 0)).1

end Go.Proofs.YtikaoikladbdpaaGreat.K9
namespace Go.Proofs.YtikaoikladbdpaaGreat.K9
open Go.RowKit

section
variable {w w' : World} {b i : Nat} {rs : List (Int × Int)}
end


end Go.Proofs.YtikaoikladbdpaaGreat.K9
