/-
  A thread in a block of its own, its batch (a list of items), a document's memory beside it. Conditions: none; no Go function is looked at here. slices.Clone of items, apart, Asks (package owner). Conditions: at most a million items, that lie in memory. Asks of package owner; what Begin makes of a thread. Conditions: none.
-/
import Derived.Test.YthefdglocnalhaaTrnD15m
import Derived.BigRegion
namespace Go.Proofs.Ythefdglocnalhaa.M2
open Go.RowKit

/-- A thread in block g. -/
def TX (w : World) (g : Nat) (t : Th) (b : Value) : Prop := w.heap[g]? = some (.cells #[.int .i64 t.ti, .int .i64 t.pc, .int .i64 t.rc, .int .i64 t.sq, .int .i64 t.wo, .int .i64 t.lk, .int .i64 t.cu, .int .i64 t.pv, .int .i64 t.nt, .int .i64 t.mx, .int .i64 t.ps, .int .i64 t.rn, b] 25 (0, 0))
def t0 : Th := ⟨0, 0, 0, 0, 0, 0, 0, 0, 0, 0, 0, 0⟩

section
variable {w w' : World} {g : Nat} {t t' : Th} {b b' : Value}
theorem TX.lt (h : TX w g t b) : g < w.heap.size := lt_of_block h
theorem TX.f (h : TX w g t b) (o : Nat) : w.frozen? ⟨g, o, none⟩ = false := by unfold TX at h; simp [World.frozen?, h]
theorem TX.keep (h : TX w g t b) (hb : Below w.heap.size w w') : TX w' g t b := (hb.block g h.lt).trans h
theorem TX.alloc (h : TX w g t b) (o : Obj) : TX (w.alloc o) g t b := (Below.heap_alloc _ _ _ h.lt).trans h
theorem TX.other (h : TX w g t b) {q : Addr} (hq : q.block ≠ g) (x : Value) : TX (w.setCell q x) g t b := (Below.heap_setCell _ _ _ _ (fun e => hq e.symm)).trans h
theorem TX.new (w : World) (t : Th) (b : Value) : TX (w.alloc (.cells #[.int .i64 t.ti, .int .i64 t.pc, .int .i64 t.rc, .int .i64 t.sq, .int .i64 t.wo, .int .i64 t.lk, .int .i64 t.cu, .int .i64 t.pv, .int .i64 t.nt, .int .i64 t.mx, .int .i64 t.ps, .int .i64 t.rn, b] 25)) w.heap.size t b := heap_alloc_new w _
theorem TX.drewN (h : TX w g t b) (n : Nat) : TX (w.drewN n) g t b := h
theorem TX.drew (h : TX w g t b) : TX w.drew g t b := h
theorem TX.c0 (h : TX w g t b) : w.cell? ⟨g, 0, none⟩ = some (.int .i64 t.ti) := by unfold TX at h; simp [World.cell?, h]
theorem TX.c1 (h : TX w g t b) : w.cell? ⟨g, 1, none⟩ = some (.int .i64 t.pc) := by unfold TX at h; simp [World.cell?, h]
theorem TX.c2 (h : TX w g t b) : w.cell? ⟨g, 2, none⟩ = some (.int .i64 t.rc) := by unfold TX at h; simp [World.cell?, h]
theorem TX.c3 (h : TX w g t b) : w.cell? ⟨g, 3, none⟩ = some (.int .i64 t.sq) := by unfold TX at h; simp [World.cell?, h]
theorem TX.c4 (h : TX w g t b) : w.cell? ⟨g, 4, none⟩ = some (.int .i64 t.wo) := by unfold TX at h; simp [World.cell?, h]
theorem TX.c5 (h : TX w g t b) : w.cell? ⟨g, 5, none⟩ = some (.int .i64 t.lk) := by unfold TX at h; simp [World.cell?, h]
theorem TX.c6 (h : TX w g t b) : w.cell? ⟨g, 6, none⟩ = some (.int .i64 t.cu) := by unfold TX at h; simp [World.cell?, h]
theorem TX.c7 (h : TX w g t b) : w.cell? ⟨g, 7, none⟩ = some (.int .i64 t.pv) := by unfold TX at h; simp [World.cell?, h]
theorem TX.c8 (h : TX w g t b) : w.cell? ⟨g, 8, none⟩ = some (.int .i64 t.nt) := by unfold TX at h; simp [World.cell?, h]
theorem TX.c9 (h : TX w g t b) : w.cell? ⟨g, 9, none⟩ = some (.int .i64 t.mx) := by unfold TX at h; simp [World.cell?, h]
theorem TX.c10 (h : TX w g t b) : w.cell? ⟨g, 10, none⟩ = some (.int .i64 t.ps) := by unfold TX at h; simp [World.cell?, h]
theorem TX.c11 (h : TX w g t b) : w.cell? ⟨g, 11, none⟩ = some (.int .i64 t.rn) := by unfold TX at h; simp [World.cell?, h]
theorem TX.c12 (h : TX w g t b) : w.cell? ⟨g, 12, none⟩ = some (b) := by unfold TX at h; simp [World.cell?, h]
theorem TX.s0 (h : TX w g t b) (x : Int) : TX (w.setCell ⟨g, 0, none⟩ (.int .i64 x)) g { t with ti := x } b := by unfold TX; rw [heap_setCell_same w g 0 _ _ _ h]; rfl
theorem TX.s1 (h : TX w g t b) (x : Int) : TX (w.setCell ⟨g, 1, none⟩ (.int .i64 x)) g { t with pc := x } b := by unfold TX; rw [heap_setCell_same w g 1 _ _ _ h]; rfl
theorem TX.s2 (h : TX w g t b) (x : Int) : TX (w.setCell ⟨g, 2, none⟩ (.int .i64 x)) g { t with rc := x } b := by unfold TX; rw [heap_setCell_same w g 2 _ _ _ h]; rfl
theorem TX.s3 (h : TX w g t b) (x : Int) : TX (w.setCell ⟨g, 3, none⟩ (.int .i64 x)) g { t with sq := x } b := by unfold TX; rw [heap_setCell_same w g 3 _ _ _ h]; rfl
theorem TX.s4 (h : TX w g t b) (x : Int) : TX (w.setCell ⟨g, 4, none⟩ (.int .i64 x)) g { t with wo := x } b := by unfold TX; rw [heap_setCell_same w g 4 _ _ _ h]; rfl
theorem TX.s5 (h : TX w g t b) (x : Int) : TX (w.setCell ⟨g, 5, none⟩ (.int .i64 x)) g { t with lk := x } b := by unfold TX; rw [heap_setCell_same w g 5 _ _ _ h]; rfl
theorem TX.s6 (h : TX w g t b) (x : Int) : TX (w.setCell ⟨g, 6, none⟩ (.int .i64 x)) g { t with cu := x } b := by unfold TX; rw [heap_setCell_same w g 6 _ _ _ h]; rfl
theorem TX.s7 (h : TX w g t b) (x : Int) : TX (w.setCell ⟨g, 7, none⟩ (.int .i64 x)) g { t with pv := x } b := by unfold TX; rw [heap_setCell_same w g 7 _ _ _ h]; rfl
theorem TX.s8 (h : TX w g t b) (x : Int) : TX (w.setCell ⟨g, 8, none⟩ (.int .i64 x)) g { t with nt := x } b := by unfold TX; rw [heap_setCell_same w g 8 _ _ _ h]; rfl
theorem TX.s9 (h : TX w g t b) (x : Int) : TX (w.setCell ⟨g, 9, none⟩ (.int .i64 x)) g { t with mx := x } b := by unfold TX; rw [heap_setCell_same w g 9 _ _ _ h]; rfl
theorem TX.s10 (h : TX w g t b) (x : Int) : TX (w.setCell ⟨g, 10, none⟩ (.int .i64 x)) g { t with ps := x } b := by unfold TX; rw [heap_setCell_same w g 10 _ _ _ h]; rfl
theorem TX.s11 (h : TX w g t b) (x : Int) : TX (w.setCell ⟨g, 11, none⟩ (.int .i64 x)) g { t with rn := x } b := by unfold TX; rw [heap_setCell_same w g 11 _ _ _ h]; rfl
theorem TX.s12 (h : TX w g t b) (x : Value) : TX (w.setCell ⟨g, 12, none⟩ x) g t x := by unfold TX; rw [heap_setCell_same w g 12 _ _ _ h]; rfl
/-- All cells of it anew. -/
def setT (w : World) (g : Nat) (t : Th) (b : Value) : World := (((((((((((((w.setCell ⟨g, 0, none⟩ (.int .i64 t.ti)).setCell ⟨g, 1, none⟩ (.int .i64 t.pc)).setCell ⟨g, 2, none⟩ (.int .i64 t.rc)).setCell ⟨g, 3, none⟩ (.int .i64 t.sq)).setCell ⟨g, 4, none⟩ (.int .i64 t.wo)).setCell ⟨g, 5, none⟩ (.int .i64 t.lk)).setCell ⟨g, 6, none⟩ (.int .i64 t.cu)).setCell ⟨g, 7, none⟩ (.int .i64 t.pv)).setCell ⟨g, 8, none⟩ (.int .i64 t.nt)).setCell ⟨g, 9, none⟩ (.int .i64 t.mx)).setCell ⟨g, 10, none⟩ (.int .i64 t.ps)).setCell ⟨g, 11, none⟩ (.int .i64 t.rn)).setCell ⟨g, 12, none⟩ b)
theorem TX.all (h : TX w g t b) (t' : Th) (b' : Value) : TX (setT w g t' b') g t' b' :=
  ((((((((((((h.s0 t'.ti).s1 t'.pc).s2 t'.rc).s3 t'.sq).s4 t'.wo).s5 t'.lk).s6 t'.cu).s7 t'.pv).s8 t'.nt).s9 t'.mx).s10 t'.ps).s11 t'.rn).s12 b'
theorem setT_other (w : World) {g k : Nat} (hk : k ≠ g) (t : Th) (b : Value) : (setT w g t b).heap[k]? = w.heap[k]? := by
  unfold setT
  repeat rw [Below.heap_setCell _ _ _ _ (by simpa using hk)]
theorem setT_size (w : World) (g : Nat) (t : Th) (b : Value) : (setT w g t b).heap.size = w.heap.size := by simp [setT, World.setCell]
theorem setT_below {a w : World} {B g : Nat} (h : Below B a w) (hg : B ≤ g) (t : Th) (b : Value) : Below B a (setT w g t b) := by
  unfold setT
  exact (((((((((((((h.setCell (by simpa using hg) _).setCell (by simpa using hg) _).setCell (by simpa using hg) _).setCell (by simpa using hg) _).setCell (by simpa using hg) _).setCell (by simpa using hg) _).setCell (by simpa using hg) _).setCell (by simpa using hg) _).setCell (by simpa using hg) _).setCell (by simpa using hg) _).setCell (by simpa using hg) _).setCell (by simpa using hg) _).setCell (by simpa using hg) _)
end

/-- Items in a row of cells. -/
def fi (l : List (Int × Int × Int)) : List Value := l.flatMap fun i => [.int .i64 i.1, .int .i64 i.2.1, .int .i64 i.2.2]
theorem fi_cons (i : Int × Int × Int) (l : List (Int × Int × Int)) : fi (i :: l) = .int .i64 i.1 :: .int .i64 i.2.1 :: .int .i64 i.2.2 :: fi l := rfl
theorem fi_length : ∀ l : List (Int × Int × Int), (fi l).length = l.length * 3
  | [] => rfl
  | i :: l => by rw [fi_cons, List.length_cons, List.length_cons, List.length_cons, fi_length l, List.length_cons]; omega
theorem fi_at : ∀ (l : List (Int × Int × Int)) (k : Nat), k < l.length → (fi l)[k * 3]? = some (.int .i64 (l.getD k (0, 0, 0)).1) ∧ (fi l)[k * 3 + 1]? = some (.int .i64 (l.getD k (0, 0, 0)).2.1) ∧ (fi l)[k * 3 + 2]? = some (.int .i64 (l.getD k (0, 0, 0)).2.2)
  | i :: l, 0, _ => ⟨rfl, rfl, rfl⟩
  | i :: l, k + 1, h => by
    have := fi_at l k (by simpa using h)
    rw [fi_cons, show (k + 1) * 3 = k * 3 + 1 + 1 + 1 by omega]
    simpa using this
theorem fi_one (l : List (Int × Int × Int)) : ∀ u ∈ fi l, u.oneCell' = true := by
  intro u hu
  simp only [fi, List.mem_flatMap, List.mem_cons, List.not_mem_nil, or_false] at hu
  obtain ⟨i, _, rfl | rfl | rfl⟩ := hu <;> rfl

/-- A slice's elements are these items. -/
def Its (w : World) (ao : Option Addr) (n : Nat) (l : List (Int × Int × Int)) : Prop :=
  l.length = n ∧ (0 < n → ∃ b off, ao = some ⟨b, off, none⟩ ∧ b < w.heap.size ∧ ∀ j u, (fi l)[j]? = some u → w.cell? ⟨b, off + j, none⟩ = some u)

section
variable {w w' : World} {ao : Option Addr} {n k cap : Nat} {l : List (Int × Int × Int)}
theorem Its.zero (w : World) (ao : Option Addr) : Its w ao 0 [] := ⟨rfl, fun h => by omega⟩
theorem Its.keep (h : Its w ao n l) (hb : Below w.heap.size w w') : Its w' ao n l := by
  refine ⟨h.1, fun hp => ?_⟩
  obtain ⟨b, off, e, hl, hc⟩ := h.2 hp
  exact ⟨b, off, e, Nat.lt_of_lt_of_le hl hb.size, fun j u hu => (hb.cell (p := ⟨b, off + j, none⟩) hl).trans (hc j u hu)⟩
theorem Its.src (h : Its w ao n l) : 0 < n → ∃ ad, ao = some ad ∧ ∀ j u, (fi l)[j]? = some u → w.cell? (ad.add j) = some u := fun hp => by
  obtain ⟨b, off, rfl, _, hc⟩ := h.2 hp
  refine ⟨⟨b, off, Option.none⟩, rfl, fun j u hu => ?_⟩
  rw [Addr.add_lit]
  exact hc j u hu
theorem Its.own {base : Nat} {v : Value} (h : w.ownsRow base 100 3 v n (fi l)) : ∃ ao cap, v = .slice ao n cap ∧ Its w ao n l ∧ (∀ a, ao = some a → base ≤ a.block) := by
  have hl : l.length = n := by have := h.1; rw [fi_length] at this; omega
  have hcs := fun g hg => h.cells (g := g) hg
  rcases h.2 with ⟨rfl, rfl⟩ | ⟨g, cap, cur, rfl, hb, hg, hle, _⟩
  · exact ⟨_, _, rfl, ⟨hl, fun hp => by omega⟩, fun _ h => by simp at h⟩
  · refine ⟨_, _, rfl, ⟨hl, fun hp => ⟨g, 0, rfl, lt_of_block hg, fun j u hu => ?_⟩⟩, fun a ha => by injection ha with ha; subst ha; exact hb⟩
    have := hcs g rfl j u hu
    simpa [Addr.add_lit] using this
/-- Behind a memory's calls: the row is none of the memory's. -/
theorem Its.did {B p N : Nat} {v v' : Value} {size size' : Int} {zs zs' : List Int} {st st' : Int} (h : Its w ao n l) (m : Mem w B p v size zs st) (d : Did B p v size' zs' st' w w') (hN : 0 < n → ∀ a, ao = some a → N ≤ a.block) (hp : p < N) (hv : ∀ g, v.ownBlock = some g → g < N) : Its w' ao n l := by
  obtain ⟨v', _, wr, _⟩ := d
  refine ⟨h.1, fun hp2 => ?_⟩
  obtain ⟨b, off, e, hl, hc⟩ := h.2 hp2
  have hb := hN hp2 _ e
  have hb : N ≤ b := hb
  refine ⟨b, off, e, Nat.lt_of_lt_of_le hl wr.size, fun j u hu => ?_⟩
  rw [← hc j u hu]
  exact World.cell?_of_block (wr.block b hl (by omega) (fun e => by have := hv b e; omega))
end

end Go.Proofs.Ythefdglocnalhaa.M2
namespace Go.Proofs.Ythefdglocnalhaa.M2
open Go.RowKit

theorem infoItem : (Try.prog.info? 100).map (fun i => (i.zero, i.size, i.bytes)) = some (some (.agg #[.int .i64 0, .int .i64 0, .int .i64 0]), 3, 24) := by kernel_rfl

/-- A list of items, the same ones, in memory that was made since there were M blocks. -/
def ClonePost (M : Nat) (w : World) (n : Nat) (l : List (Int × Int × Int)) (ao : Option Addr) (ao' : Option Addr) (cap' : Nat) (w' : World) : Prop :=
  Its w' ao' n l ∧ (0 < n → ∀ a, ao' = some a → M ≤ a.block) ∧ Below M w w' ∧ (ao = none → ao' = none ∧ cap' = 0)

set_option maxRecDepth 100000 in
set_option maxHeartbeats 1600000 in
theorem cloneAny (w : World) (ao : Option Addr) (n cap : Nat) (l : List (Int × Int × Int)) (h : Its w ao n l) (hn : n ≤ 1000000) (hc : ao = none → cap = 0) :
    Calls Try.prog 57 #[.slice ao n cap] w fun e w' => ∃ ao' cap', e = .returned (.slice ao' n cap') ∧ ClonePost w.heap.size w n l ao ao' cap' w' := by
  obtain ⟨i0, hi, hz0, hz1, hz2⟩ := info_parts infoItem
  cases ao with
  | none =>
    have hn0 : n = 0 := by
      rcases Nat.eq_zero_or_pos n with h1 | h1
      · exact h1
      · obtain ⟨b, off, e, _⟩ := h.2 h1
        cases e
    subst hn0
    obtain rfl := hc rfl
    have he : ∀ w, (binOp .eql 23 (.slice none 0 0) (.slice none 0 0)).run Try.prog w = .ok (.bool true) w := fun _ => rfl
    have H := Lib.hid h
    clear h
    go_enter Try.func57, Try.ntmps57
    go_wp2
    go_ret
    exact ⟨none, 0, rfl, H.out, fun h => by omega, Below.refl _ _, fun _ => ⟨rfl, rfl⟩⟩
  | some ad =>
    have H := Lib.hid h
    have HI := Lib.hid hi
    have H0 := Lib.hid hz0
    have H1 := Lib.hid hz1
    have H2 := Lib.hid hz2
    clear h hi hz0 hz1 hz2 hc
    have he : ∀ w, (binOp .eql 23 (.slice (some ad) n cap) (.slice none 0 0)).run Try.prog w = .ok (.bool false) w := fun _ => rfl
    go_enter Try.func57, Try.ntmps57
    have HO := Lib.hid (show (w.alloc (.cells #[] 100)).ownsRow w.heap.size 100 3 (.slice (some ⟨w.heap.size, 0, none⟩) 0 0) 0 [] from ⟨rfl, .inr ⟨w.heap.size, 0, #[], rfl, Nat.le_refl _, heap_alloc_new w _, by simp⟩⟩)
    have HA := Lib.hid (show Below w.heap.size w (w.alloc (.cells #[] 100)) from (Below.refl _ _).alloc (Nat.le_refl _) _)
    have HS := Lib.hid (show ∀ j u, (fi l)[j]? = some u → (w.alloc (.cells #[] 100)).cell? (ad.add j) = some u by
      intro j u hu
      rcases Nat.eq_zero_or_pos n with h0 | h0
      · have : fi l = [] := List.eq_nil_of_length_eq_zero (by rw [fi_length, H.out.1]; omega)
        rw [this] at hu
        simp at hu
      · obtain ⟨ad', e, hc⟩ := (H.out.keep HA.out).src h0
        injection e with e
        subst e
        exact hc j u hu)
    have HN := Lib.hid (fi_length l)
    have HL := Lib.hid H.out.1
    go_upto_region 3 with (fail)
    go_wp2_with (at_builtin; (refine wpList_append_own _ rfl (.tmp 5) (.tmp 6) 23 rfl w.heap.size 100 i0 _ 3 24 Try.underlying23 HI.out H0.out H1.out H2.out rfl (by decide) _ 0 [] rfl HO.out ad n cap (fi l) rfl (by rw [HN.out, HL.out]) HS.out (fi_one l) (by simp only [maxLen]; omega) (by omega) (by simp) ?_; intro v' w5 q5 g5 _; rw [Nat.zero_add, List.nil_append] at q5; obtain ⟨ao', cap', rfl, k5, l5⟩ := Its.own q5; have H5 := Lib.hid k5; have L5 := Lib.hid l5; have B5' := Lib.hid (HA.out.grown g5 (by simp) (fun k e => by injection e with e; exact Nat.le_of_eq e)); clear q5 g5 k5 l5))
    go_ret
    exact ⟨ao', cap', rfl, H5.out, fun _ => L5.out, B5'.out, fun h => by cases h⟩

/-- What apart tells: the same thread, with a batch of its own. -/
def ApartPost (M : Nat) (w : World) (t : Th) (n : Nat) (l : List (Int × Int × Int)) (ao : Option Addr) (e : Ending) (w' : World) : Prop :=
  ∃ ao' cap', e = .returned (thV t (.slice ao' n cap')) ∧ ClonePost M w n l ao ao' cap' w'

set_option maxRecDepth 100000 in
set_option maxHeartbeats 1600000 in
theorem apartAny (w : World) (t : Th) (ao : Option Addr) (n cap : Nat) (l : List (Int × Int × Int)) (h : Its w ao n l) (hn : n ≤ 1000000) (hc : ao = none → cap = 0) :
    Calls Try.prog 38 #[thV t (.slice ao n cap)] w (ApartPost w.heap.size w t n l ao) := by
  unfold thV
  have H := Lib.hid h
  have HC := Lib.hid hc
  clear h hc
  go_enter Try.func38, Try.ntmps38
  go_upto_region 1 with (fail)
  generalize hW : (w.alloc (.cells #[.int .i64 t.ti, .int .i64 t.pc, .int .i64 t.rc, .int .i64 t.sq, .int .i64 t.wo, .int .i64 t.lk, .int .i64 t.cu, .int .i64 t.pv, .int .i64 t.nt, .int .i64 t.mx, .int .i64 t.ps, .int .i64 t.rn, .slice ao n cap] 25)).alloc (.cells #[.int .i64 0, .int .i64 0, .int .i64 0, .int .i64 0, .int .i64 0, .int .i64 0, .int .i64 0, .int .i64 0, .int .i64 0, .int .i64 0, .int .i64 0, .int .i64 0, .slice none 0 0] 25) = W
  have HX := Lib.hid (show TX W w.heap.size t (.slice ao n cap) by subst hW; exact (TX.new w t _).alloc _)
  have HY := Lib.hid (show TX W (w.heap.size + 1) t0 (.slice none 0 0) by
    subst hW
    have := TX.new (w.alloc (.cells #[.int .i64 t.ti, .int .i64 t.pc, .int .i64 t.rc, .int .i64 t.sq, .int .i64 t.wo, .int .i64 t.lk, .int .i64 t.cu, .int .i64 t.pv, .int .i64 t.nt, .int .i64 t.mx, .int .i64 t.ps, .int .i64 t.rn, .slice ao n cap] 25)) t0 (.slice none 0 0)
    simpa [t0] using this)
  have HB := Lib.hid (show Below w.heap.size w W by subst hW; exact ((Below.refl _ _).alloc (Nat.le_refl _) _).alloc (by simp) _)
  have C := cloneAny W ao n cap l (H.out.keep HB.out) hn HC.out
  have c12 := HX.out.c12
  clear hW
  go_wp2_with fail
  refine C.mono ?_
  clear C c12
  rintro e w2 ⟨ao', cap', rfl, i2, l2, b2, n2⟩
  have HI2 := Lib.hid (And.intro i2 (And.intro l2 (And.intro b2 n2)))
  have x2 := HX.out.keep (b2.mono (Nat.le_refl _))
  have y2 := HY.out.keep (b2.mono (Nat.le_refl _))
  have hlt := x2.lt
  have hlt2 := y2.lt
  have x3 := x2.s12 (.slice ao' n cap')
  have y3 := y2.other (q := ⟨w.heap.size, 12, none⟩) (by simp) (.slice ao' n cap')
  have q12 := x2.c12
  have qf := x2.f
  have p0 := x3.c0
  have p1 := x3.c1
  have p2 := x3.c2
  have p3 := x3.c3
  have p4 := x3.c4
  have p5 := x3.c5
  have p6 := x3.c6
  have p7 := x3.c7
  have p8 := x3.c8
  have p9 := x3.c9
  have p10 := x3.c10
  have p11 := x3.c11
  have p12 := x3.c12
  have r0 := y3.c0
  have r1 := y3.c1
  have r2 := y3.c2
  have r3 := y3.c3
  have r4 := y3.c4
  have r5 := y3.c5
  have r6 := y3.c6
  have r7 := y3.c7
  have r8 := y3.c8
  have r9 := y3.c9
  have r10 := y3.c10
  have r11 := y3.c11
  have r12 := y3.c12
  have rf := y3.f
  have Z := y3.all t (.slice ao' n cap')
  have HZ := Lib.hid Z
  clear i2 l2 b2 n2 x2 y2 x3 y3 Z
  go_wp2
  change bodyPost _ _ _ _ _ (setT (w2.setCell ⟨w.heap.size, 12, none⟩ (.slice ao' n cap')) (w.heap.size + 1) t (.slice ao' n cap'))
  have z := HZ.out
  refine bodyPost_ret (v := thV t (.slice ao' n cap')) (by simp [results, Try.results38, go_sem, thV, z.c0, z.c1, z.c2, z.c3, z.c4, z.c5, z.c6, z.c7, z.c8, z.c9, z.c10, z.c11, z.c12]) rfl ?_
  obtain ⟨i2, l2, b2, n2⟩ := HI2.out
  have hW := HB.out.size
  have b3 : Below w.heap.size w (setT (w2.setCell ⟨w.heap.size, 12, none⟩ (.slice ao' n cap')) (w.heap.size + 1) t (.slice ao' n cap')) := setT_below ((HB.out.trans (b2.mono hW)).setCell (Nat.le_refl _) _) (by omega) _ _
  refine ⟨ao', cap', rfl, ⟨i2.1, fun hp => ?_⟩, fun hp a ha => Nat.le_trans hW (l2 hp a ha), b3, n2⟩
  obtain ⟨b, off, e, hl, hc⟩ := i2.2 hp
  have hb : W.heap.size ≤ b := l2 hp _ e
  have hs : w.heap.size + 1 < W.heap.size := HY.out.lt
  refine ⟨b, off, e, by rw [setT_size]; simpa [World.setCell] using hl, fun j u hu => ?_⟩
  rw [← hc j u hu]
  exact World.cell?_of_block ((setT_other _ (show b ≠ w.heap.size + 1 by omega) _ _).trans (Below.heap_setCell _ _ _ _ (show b ≠ w.heap.size by omega)))

end Go.Proofs.Ythefdglocnalhaa.M2
namespace Go.Proofs.Ythefdglocnalhaa.M2
open Go.RowKit

/-- A thread that asks. -/
def bgT (t : Th) (w : Int) : Th := if t.pc = 0 then { t with wo := w, sq := ad t.sq 1, pc := fk (t.rc == 0) 1 2 } else t

theorem bgT_no {t : Th} (w : Int) (h : t.pc ≠ 0) : bgT t w = t := if_neg h
theorem bgT_yes {t : Th} (w : Int) (h : t.pc = 0) : bgT t w = { t with wo := w, sq := ad t.sq 1, pc := fk (t.rc == 0) 1 2 } := if_pos h

set_option maxRecDepth 100000 in
set_option maxHeartbeats 1600000 in
theorem asksO (w : World) (t : Th) (b : Value) (hb : ∃ ao n cap, b = .slice ao n cap) : Calls Try.prog 31 #[thV t b] w fun e w' => e = .returned (.bool (decide (1 ≤ t.pc ∧ t.pc ≤ 16))) ∧ Below w.heap.size w w' := by
  unfold thV
  obtain ⟨ao, n, cap, rfl⟩ := hb
  have HB := Lib.hid (show Below w.heap.size w (w.alloc (.cells #[.int .i64 t.ti, .int .i64 t.pc, .int .i64 t.rc, .int .i64 t.sq, .int .i64 t.wo, .int .i64 t.lk, .int .i64 t.cu, .int .i64 t.pv, .int .i64 t.nt, .int .i64 t.mx, .int .i64 t.ps, .int .i64 t.rn, .slice ao n cap] 25)) from (Below.refl _ _).alloc (Nat.le_refl _) _)
  rcases (show t.pc < 1 ∨ (1 ≤ t.pc ∧ 16 < t.pc) ∨ (1 ≤ t.pc ∧ t.pc ≤ 16) from by omega) with h | h | h
  · have e : decide (1 ≤ t.pc ∧ t.pc ≤ 16) = false := decide_eq_false (by omega)
    rw [e]
    clear e
    have h1 : decide (1 ≤ t.pc) = false := decide_eq_false (by omega)
    generalize t.pc = y at *
    go_enter Try.func31, Try.ntmps31
    go_wp2
    go_ret
    exact ⟨rfl, HB.out⟩
  · have e : decide (1 ≤ t.pc ∧ t.pc ≤ 16) = false := decide_eq_false (by omega)
    rw [e]
    clear e
    obtain ⟨h1, h2⟩ := h
    have h3 : decide (1 ≤ t.pc) = true := decide_eq_true h1
    have h4 : decide (t.pc ≤ 16) = false := decide_eq_false (by omega)
    generalize t.pc = y at *
    go_enter Try.func31, Try.ntmps31
    go_wp2
    go_ret
    exact ⟨rfl, HB.out⟩
  · have e : decide (1 ≤ t.pc ∧ t.pc ≤ 16) = true := decide_eq_true h
    rw [e]
    clear e
    obtain ⟨h1, h2⟩ := h
    have h3 : decide (1 ≤ t.pc) = true := decide_eq_true h1
    have h4 : decide (t.pc ≤ 16) = true := decide_eq_true h2
    generalize t.pc = y at *
    go_enter Try.func31, Try.ntmps31
    go_wp2
    go_ret
    exact ⟨rfl, HB.out⟩

/-- What Begin tells. -/
def BeginPost (w : World) (t : Th) (wo : Int) (n : Nat) (l : List (Int × Int × Int)) (ao : Option Addr) (e : Ending) (w' : World) : Prop :=
  ∃ ao' cap', e = .returned (.tuple #[thV (bgT t wo) (.slice ao' n cap'), .bool (t.pc == 0)]) ∧ ClonePost w.heap.size w n l ao ao' cap' w'

/-- A list of items behind what wrote below M alone to blocks of its own. -/
theorem ClonePost.on {M N : Nat} {w w2 w3 : World} {n : Nat} {l : List (Int × Int × Int)} {ao ao' : Option Addr} {cap' : Nat} (h : ClonePost N w n l ao ao' cap' w2) (hM : M ≤ N) (hb : ∀ k, N ≤ k → k < w2.heap.size → w3.heap[k]? = w2.heap[k]?) (hs : w2.heap.size ≤ w3.heap.size) {w1 : World} (hw : Below M w1 w3) : ClonePost M w1 n l ao ao' cap' w3 := by
  obtain ⟨i2, l2, b2, n2⟩ := h
  refine ⟨⟨i2.1, fun hp => ?_⟩, fun hp a ha => Nat.le_trans hM (l2 hp a ha), hw, n2⟩
  obtain ⟨b, off, e, hl, hc⟩ := i2.2 hp
  have hN : N ≤ b := l2 hp _ e
  refine ⟨b, off, e, Nat.lt_of_lt_of_le hl hs, fun j u hu => ?_⟩
  rw [← hc j u hu]
  exact World.cell?_of_block (hb b hN hl)

end Go.Proofs.Ythefdglocnalhaa.M2
