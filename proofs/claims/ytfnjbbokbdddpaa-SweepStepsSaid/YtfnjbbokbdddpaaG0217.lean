/-
  What a call that only makes new memory leaves behind: 'Fresh w w2' says that every block of w, and every mark, is as it was. No condition; no Go function is looked at here. Plain arithmetic of words: the word of a kind and a value, and the way back; no Go function is looked at here. Contracts of package word's functions: Op and Res answer the word, OfOp and OfRes the pair or nothing, Asks whether a number is above 0; each leaves all old memory as it was. Contracts of package record: Base, Open, Many, Nth. Conditions: a memory as Mem1 says. Contracts of package record: Nth, See (with the piece that becomes an array), Waits, Told. Conditions: a memory as Mem1 says. Lists of numbers that came in, and what reaperref02.Same tells of two lists of the same numbers. Conditions: none. What the document's own memory (package reaperref02) does: each call tells new values and makes new memory; all old memory is as it was. Conditions: steps below a million, at most 1000 cells. What New, Alloc, Load, At, Store and Swap of the document's memory tell. Conditions: at most 1000 cells, steps below a million. What Load, At, Store and Swap of the document's memory tell. Conditions: at most 1000 cells, steps below a million. Contracts of package record: See (with the piece that becomes an array), Waits, Told. Conditions: a memory as Mem1 says.
-/
import Derived.Test.YtfnjbbokbdddpaaG0117
import Derived.WalkKit
import Derived.ProofKit
import Derived.Below
import Derived.RowKit3
import Derived.WalkSmall
import Derived.IntWalk
import Derived.Deep.QuietTactic
import Derived.BigQuiet
import Derived.Lib.Hide
import Derived.Laws.Cover3
import Derived.ChangeSlices
import Derived.OpenShut
import Derived.Deep.Cut
import Derived.RegionTactic
namespace Go.Proofs.Ytfnjbbokbdddpaa.M2
open Go.RowKit

end Go.Proofs.Ytfnjbbokbdddpaa.M2
namespace Go.Proofs.Ytfnjbbokbdddpaa.M2

end Go.Proofs.Ytfnjbbokbdddpaa.M2
namespace Go.Proofs.Ytfnjbbokbdddpaa.M2
open Go.RowKit

end Go.Proofs.Ytfnjbbokbdddpaa.M2
namespace Go.Proofs.Ytfnjbbokbdddpaa.M2
open Go.RowKit

section
variable {w : World} {B p : Nat} {size : Int} {zs : List Int} {st : Int}

end

end Go.Proofs.Ytfnjbbokbdddpaa.M2
namespace Go.Proofs.Ytfnjbbokbdddpaa.M2
open Go.RowKit

section
variable {w w' : World} {N : Nat} {t : TypeId} {a b c d e : Int}
end

section
variable {w : World} {B p : Nat} {size : Int} {zs : List Int} {st : Int}

end

end Go.Proofs.Ytfnjbbokbdddpaa.M2
namespace Go.Proofs.Ytfnjbbokbdddpaa.M2
open Go.RowKit Go.ChangeShapes Go.WideShapes

def Nums (k : IntKind) (w : World) (ao : Option Addr) (len : Nat) (zs : List Int) : Prop :=
  Reads k w ao len zs ∧ len ≤ maxLen ∧ ∀ n ∈ zs, (Lit.int k n).wf = true

theorem reads_own {w : World} {base n : Nat} {ao : Option Addr} {cap : Nat} {zs : List Int} (h : w.ownsRow base 2 1 (.slice ao n cap) n (zs.map (Value.int .i64))) : Reads .i64 w ao n zs := by
  have hl : zs.length = n := by have := h.1; simpa using this
  refine ⟨hl, fun hp => ?_⟩
  rcases h.2 with ⟨h', e⟩ | ⟨g, cap', cur, h', _, hg, _⟩
  · omega
  · simp only [Value.slice.injEq] at h'
    obtain ⟨rfl, _, rfl⟩ := h'
    refine ⟨g, 0, rfl, lt_of_block hg, fun i hi => ?_⟩
    rw [Nat.zero_add, h.cellAt i (by omega)]
    simp [List.getD, hl, hi]

theorem openBytes {H : Type} {enc : TypeId × Value → H} {W : World} {a : Option Addr} {len cap : Nat} {d : DataW H} {ps : List MemPlace}
    (h : DataW.Trod enc Try.prog W 0 (fun _ => true) true 26 (.slice a len cap) d ps) : ∃ zs, Nums .u8 W a len zs := by
  obtain ⟨fuel, hf⟩ := h
  rcases open_ints Try.underlying26 Try.underlying5 (by kernel_rfl) hf with ⟨hcs, _⟩ | ⟨x, l, c, zs, hcs, _, hl, hm, hz, _, hcell, hwz⟩
  · simp [Value.cells] at hcs
    obtain ⟨rfl, rfl, rfl⟩ := hcs
    exact ⟨[], ⟨rfl, fun h => by omega⟩, by simp [maxLen], by simp⟩
  · simp [Value.cells] at hcs
    obtain ⟨rfl, rfl, rfl⟩ := hcs
    simp only [if_true] at hz
    refine ⟨zs.take len, ⟨by simp; omega, fun hp => ?_⟩, by omega, fun n hn => hwz n (List.mem_of_mem_take hn)⟩
    obtain ⟨b, off, spot⟩ := x
    have hspot : spot = none := by simpa [Addr.add] using World.cell?_spot (hcell 0 (by omega))
    subst hspot
    refine ⟨b, off, rfl, World.block_lt_of_cell? W _ (hcell 0 (by omega)), fun i hi => ?_⟩
    have := hcell i (by omega)
    rw [Addr.add_lit] at this
    rw [this]
    simp [List.getD, hi]

set_option maxRecDepth 100000 in
set_option maxHeartbeats 1600000 in
theorem sameEq (w : World) (a b : Option Addr) (len c d : Nat) (zs : List Int) (ha : Reads .i64 w a len zs) (hb : Reads .i64 w b len zs) (hl : len ≤ 1000000) :
    Calls Try.prog 23 #[.slice a len c, .slice b len d] w fun e w' => e = .returned (.bool true) ∧ Below w.heap.size w w' := by
  have HA := Lib.hid ha
  have HB := Lib.hid hb
  clear ha hb
  go_enter Try.func23, Try.ntmps23
  go_wp2
  go_loopw [5] (fun i wr => ∃ k : Nat, k ≤ len ∧ i = .int .i64 k ∧ Below w.heap.size w wr) (fun i _ => len - (intOf i).toNat)
  case atStart => exact ⟨0, Nat.zero_le _, rfl, Below.refl _ _⟩
  case round =>
    obtain ⟨k, hk, rfl, hbe⟩ := hrel
    have HE := Lib.hid hbe
    by_cases hlt : k < len
    · obtain ⟨b1, o1, rfl, l1, h1⟩ := (HA.out.keep hbe).2 (by omega)
      obtain ⟨b2, o2, rfl, l2, h2⟩ := (HB.out.keep hbe).2 (by omega)
      have c1 := h1 k hlt
      have c2 := h2 k hlt
      clear h1 h2 hbe
      generalize zs.getD k 0 = z at *
      have i0 : (k : Int) < len := by omega
      go_wp2
      go_quiet (fail)
      go_wp2
      go_roundw
      case rel => exact ⟨k + 1, by omega, by go_num, below_drewN HE.out _⟩
      case measure => simp [intOf]; omega
    · clear hbe
      go_wp2
      go_ret
      exact ⟨rfl, HE.out⟩

end Go.Proofs.Ytfnjbbokbdddpaa.M2
namespace Go.Proofs.Ytfnjbbokbdddpaa.M2
open Go.RowKit

def Boxed (w : World) (N : Nat) (a b c : Value) : Prop := w.heap[N]? = some (.cells #[a, b, c] 39 (0, 0))

section
variable {w w' : World} {N : Nat} {a b c : Value}
theorem Boxed.c0 (h : Boxed w N a b c) : w.cell? ⟨N, 0, none⟩ = some a := by unfold Boxed at h; simp [World.cell?, h]
theorem Boxed.c1 (h : Boxed w N a b c) : w.cell? ⟨N, 1, none⟩ = some b := by unfold Boxed at h; simp [World.cell?, h]
theorem Boxed.c2 (h : Boxed w N a b c) : w.cell? ⟨N, 2, none⟩ = some c := by unfold Boxed at h; simp [World.cell?, h]
theorem Boxed.f (h : Boxed w N a b c) (o : Nat) : w.frozen? ⟨N, o, none⟩ = false := by unfold Boxed at h; simp [World.frozen?, h]
theorem Boxed.lt (h : Boxed w N a b c) : N < w.heap.size := lt_of_block h
theorem Boxed.keep (h : Boxed w N a b c) (hb : Below w.heap.size w w') : Boxed w' N a b c := (hb.block N h.lt).trans h
theorem Boxed.grown (h : Boxed w N a b c) {row : Option Nat} (hg : w.grownBy w' row) (hr : row ≠ some N) : Boxed w' N a b c := (hg.block N h.lt (fun e => hr e.symm)).trans h
theorem Boxed.new (w : World) (a b c : Value) : Boxed (w.alloc (.cells #[a, b, c] 39)) w.heap.size a b c := heap_alloc_new w _
theorem Boxed.alloc (h : Boxed w N a b c) (o : Obj) : Boxed (w.alloc o) N a b c := (Below.heap_alloc _ _ _ h.lt).trans h
theorem Boxed.other (h : Boxed w N a b c) {q : Addr} (hq : q.block ≠ N) (x : Value) : Boxed (w.setCell q x) N a b c := (Below.heap_setCell _ _ _ _ (fun e => hq e.symm)).trans h
theorem Boxed.set0 (h : Boxed w N a b c) (x : Value) : Boxed (w.setCell ⟨N, 0, none⟩ x) N x b c := by unfold Boxed; rw [heap_setCell_same w N 0 _ _ _ h]; rfl
theorem Boxed.set1 (h : Boxed w N a b c) (x : Value) : Boxed (w.setCell ⟨N, 1, none⟩ x) N a x c := by unfold Boxed; rw [heap_setCell_same w N 1 _ _ _ h]; rfl
theorem Boxed.set2 (h : Boxed w N a b c) (x : Value) : Boxed (w.setCell ⟨N, 2, none⟩ x) N a b x := by unfold Boxed; rw [heap_setCell_same w N 2 _ _ _ h]; rfl
end

theorem own_ne_boxed {w : World} {base N n : Nat} {a b c u : Value} {xs : List Value} (h : w.ownsRow base 2 1 u n xs) (hb : Boxed w N a b c) : u.ownBlock ≠ some N := by
  intro e
  rcases h.2 with ⟨rfl, _⟩ | ⟨g, cap, cur, rfl, _, hg, _⟩
  · simp [Value.ownBlock] at e
  · simp only [Value.ownBlock, Option.some.injEq] at e
    subst e
    unfold Boxed at hb
    rw [hg] at hb
    simp at hb

theorem own_keep {w w' : World} {base n : Nat} {u : Value} {xs : List Value} (h : w.ownsRow base 2 1 u n xs) (hb : Below w.heap.size w w') : w'.ownsRow base 2 1 u n xs := by
  refine ⟨h.1, ?_⟩
  rcases h.2 with hn | ⟨g, cap, cur, rfl, hl, hg, r⟩
  · exact .inl hn
  · exact .inr ⟨g, cap, cur, rfl, hl, (hb.block g (lt_of_block hg)).trans hg, r⟩

section
variable {w : World} {B : Nat} {u : Value} {size : Int} {zs : List Int} {st : Int}

theorem hasIn (ao : Option Addr) (n cap : Nat) (size st a : Int) (w : World) (h0 : 0 ≤ a) (h1 : a < n) :
    Calls Try.prog 55 #[.agg #[.int .i64 size, .slice ao n cap, .int .i64 st], .int .i64 a] w fun e w' => e = .returned (.bool true) ∧ Below w.heap.size w w' := by
  go_enter Try.func55, Try.ntmps55
  go_wp2
  go_ret
  exact ⟨by simp, (Below.refl _ _).alloc (Nat.le_refl _) _⟩

theorem hasOut (ao : Option Addr) (n cap : Nat) (size st a : Int) (w : World) (h0 : a < 0 ∨ n ≤ a) :
    Calls Try.prog 55 #[.agg #[.int .i64 size, .slice ao n cap, .int .i64 st], .int .i64 a] w fun e w' => e = .returned (.bool false) ∧ Below w.heap.size w w' := by
  rcases (show a < 0 ∨ (0 ≤ a ∧ (n : Int) ≤ a) from by omega) with h | ⟨h, h'⟩
  · clear h0
    go_enter Try.func55, Try.ntmps55
    go_wp2
    go_ret
    exact ⟨by simp, (Below.refl _ _).alloc (Nat.le_refl _) _⟩
  · clear h0
    have h2 : decide (a < n) = false := by simp; omega
    go_enter Try.func55, Try.ntmps55
    go_wp2
    go_ret
    exact ⟨by simp <;> omega, (Below.refl _ _).alloc (Nat.le_refl _) _⟩

theorem freshAny (size st : Int) (h : w.ownsRow B 2 1 u zs.length (zs.map (Value.int .i64))) (hl : zs.length ≤ 1000) :
    Calls Try.prog 51 #[.agg #[.int .i64 size, u, .int .i64 st]] w fun e w' => ∃ u', e = .returned (.agg #[.int .i64 size, u', .int .i64 st]) ∧ w'.ownsRow w.heap.size 2 1 u' zs.length (zs.map (Value.int .i64)) ∧ Below w.heap.size w w' := by
  obtain ⟨i0, hi, hz0, hz1, hz2⟩ := info_parts infoInt64
  rcases h.2 with ⟨rfl, e⟩ | ⟨g, cap, cur, rfl, hb, hg, _⟩
  · obtain rfl : zs = [] := List.eq_nil_of_length_eq_zero e
    have HI := Lib.hid hi
    clear hi hz0 hz1 hz2 h e
    go_enter Try.func51, Try.ntmps51
    go_upto_region 2 with (fail)
    generalize hW : (w.alloc (.cells #[.int .i64 size, .slice none 0 0, .int .i64 st] 39)).alloc (.cells #[.int .i64 0, .slice none 0 0, .int .i64 0] 39) = W
    have X0 : Boxed W w.heap.size (.int .i64 size) (.slice none 0 0) (.int .i64 st) := by subst hW; exact (Boxed.new _ _ _ _).alloc _
    have X1 : Boxed W (w.heap.size + 1) (.int .i64 0) (.slice none 0 0) (.int .i64 0) := by subst hW; have := Boxed.new (w.alloc (.cells #[.int .i64 size, .slice none 0 0, .int .i64 st] 39)) (.int .i64 0) (.slice none 0 0) (.int .i64 0); simpa using this
    have hb0 : Below w.heap.size w W := by subst hW; exact ((Below.refl _ _).alloc (Nat.le_refl _) _).alloc (by simp) _
    clear hW
    have HB0 := Lib.hid hb0
    have HX0 := Lib.hid X0
    have HX1 := Lib.hid X1
    have d0 := X0.c0
    have d1 := X0.c1
    have d2 := X0.c2
    have df := X0.f
    have e0 := X1.c0
    have e1 := X1.c1
    have e2 := X1.c2
    have ef := X1.f
    clear hb0 X0 X1
    go_wp2_with (at_builtin; refine wpList_append_own_none rfl (.tmp 4) (.tmp 6) 22 rfl w.heap.size 2 i0 1 Try.underlying22 HI.out (.slice none 0 0) 0 [] rfl (World.ownsRow_nil _ _ _ _) rfl ?_)
    have Z := (((HX1.out.other (q := ⟨w.heap.size, 1, none⟩) (by simp) (.slice none 0 0)).set0 (.int .i64 size)).set1 (.slice none 0 0)).set2 (.int .i64 st)
    refine bodyPost_ret (v := .agg #[.int .i64 size, .slice none 0 0, .int .i64 st]) (by simp [results, Try.results51, go_sem, Z.c0, Z.c1, Z.c2]) rfl ⟨_, rfl, World.ownsRow_nil _ _ _ _, ?_⟩
    exact (((HB0.out.setCell (Nat.le_refl _) _).setCell (by simp) _).setCell (by simp) _).setCell (by simp) _
  · have HI := Lib.hid hi
    have H0 := Lib.hid hz0
    have H1 := Lib.hid hz1
    have H2 := Lib.hid hz2
    clear hi hz0 hz1 hz2
    have HC := Lib.hid (h.cells (g := g) rfl)
    have hgl := lt_of_block hg
    have HL := Lib.hid h
    clear h hg
    go_enter Try.func51, Try.ntmps51
    go_upto_region 2 with (fail)
    generalize hW : (w.alloc (.cells #[.int .i64 size, .slice (some ⟨g, 0, none⟩) zs.length cap, .int .i64 st] 39)).alloc (.cells #[.int .i64 0, .slice none 0 0, .int .i64 0] 39) = W
    have X0 : Boxed W w.heap.size (.int .i64 size) (.slice (some ⟨g, 0, none⟩) zs.length cap) (.int .i64 st) := by subst hW; exact (Boxed.new _ _ _ _).alloc _
    have X1 : Boxed W (w.heap.size + 1) (.int .i64 0) (.slice none 0 0) (.int .i64 0) := by subst hW; have := Boxed.new (w.alloc (.cells #[.int .i64 size, .slice (some ⟨g, 0, none⟩) zs.length cap, .int .i64 st] 39)) (.int .i64 0) (.slice none 0 0) (.int .i64 0); simpa using this
    have hb0 : Below w.heap.size w W := by subst hW; exact ((Below.refl _ _).alloc (Nat.le_refl _) _).alloc (by simp) _
    clear hW
    have HC2 := Lib.hid (fun j u hu => (hb0.cell (p := (⟨g, 0, none⟩ : Addr).add j) (by simpa [Addr.add_lit] using hgl)).trans (HC.out j u hu))
    have HB0 := Lib.hid hb0
    have HX0 := Lib.hid X0
    have HX1 := Lib.hid X1
    have c1 := X0.c1
    clear hb0 X0 X1
    have hsz := HB0.out.size
    go_wp2_with (at_builtin; refine wpList_append_own _ rfl (.tmp 4) (.tmp 6) 22 rfl w.heap.size 2 i0 (.int .i64 0) 1 8 Try.underlying22 HI.out H0.out H1.out H2.out rfl (by decide) (.slice none 0 0) 0 [] rfl (World.ownsRow_nil _ _ _ _) ⟨g, 0, none⟩ zs.length cap (zs.map (Value.int .i64)) rfl (by simp) HC2.out (ints_oneCell _ _) (by unfold maxLen; omega) (by omega) hsz ?_; intro u1 w1 ho hg hn; obtain ⟨ao', cap', rfl⟩ := ownShape ho; have Y0 := HX0.out.grown hg (by simp [Value.ownBlock]); have Y1 := HX1.out.grown hg (by simp [Value.ownBlock]); have d0 := Y0.c0; have d1 := Y0.c1; have d2 := Y0.c2; have df := Y0.f; have e0 := Y1.c0; have e1 := Y1.c1; have e2 := Y1.c2; have ef := Y1.f; have HO := Lib.hid ho; have HG := Lib.hid hg; clear ho hg hn; have HY0 := Lib.hid Y0; have HY1 := Lib.hid Y1; clear Y0 Y1)
    have Z := (((HY1.out.other (q := ⟨w.heap.size, 1, none⟩) (by simp) (.slice ao' zs.length cap')).set0 (.int .i64 size)).set1 (.slice ao' zs.length cap')).set2 (.int .i64 st)
    have ho := HO.out
    simp only [Nat.zero_add, List.nil_append] at ho
    have n0 := own_ne_boxed ho HY0.out
    have n1 := own_ne_boxed ho HY1.out
    refine bodyPost_ret (v := .agg #[.int .i64 size, .slice ao' zs.length cap', .int .i64 st]) (by simp [results, Try.results51, go_sem, Z.c0, Z.c1, Z.c2]) rfl ⟨_, rfl, ?_, ?_⟩
    · exact ownsRow_setCell_other (ownsRow_setCell_other (ownsRow_setCell_other (ownsRow_setCell_other ho n0 _) n1 _) n1 _) n1 _
    · exact ((((HB0.out.grown HG.out HB0.out.size (by simp [Value.ownBlock])).setCell (Nat.le_refl _) _).setCell (by simp) _).setCell (by simp) _).setCell (by simp) _
end

end Go.Proofs.Ytfnjbbokbdddpaa.M2
namespace Go.Proofs.Ytfnjbbokbdddpaa.M2
open Go.RowKit

theorem own_le {w : World} {base base' n : Nat} {u : Value} {xs : List Value} (h : w.ownsRow base 2 1 u n xs) (hb : base' ≤ base) : w.ownsRow base' 2 1 u n xs := by
  refine ⟨h.1, ?_⟩
  rcases h.2 with hn | ⟨g, cap, cur, rfl, hl, r⟩
  · exact .inl hn
  · exact .inr ⟨g, cap, cur, rfl, Nat.le_trans hb hl, r⟩

theorem own_row {w : World} {base n : Nat} {u : Value} {xs : List Value} (h : w.ownsRow base 2 1 u n xs) (hn : 0 < n) : ∃ g cap, u = .slice (some ⟨g, 0, none⟩) n cap ∧ g < w.heap.size := by
  rcases h.2 with ⟨_, e⟩ | ⟨g, cap, cur, rfl, _, hg, _⟩
  · omega
  · exact ⟨g, cap, rfl, lt_of_block hg⟩

theorem own_cell {w : World} {base g cap : Nat} {zs : List Int} (h : w.ownsRow base 2 1 (.slice (some ⟨g, 0, none⟩) zs.length cap) zs.length (zs.map (Value.int .i64))) {a : Int} (h0 : 0 ≤ a) (h1 : a < zs.length) :
    w.cell? ⟨g, a.toNat, none⟩ = some (.int .i64 (zs.getD a.toNat 0)) ∧ w.frozen? ⟨g, a.toNat, none⟩ = false := by
  have hl : a.toNat < zs.length := by omega
  refine ⟨?_, h.frozenAt _⟩
  rw [h.cellAt a.toNat (by omega)]
  simp [List.getD, hl]

def Left (w : World) (B : Nat) (u : Value) (zs : List Int) (u' : Value) (w' : World) : Prop :=
  w'.ownsRow B 2 1 u' zs.length (zs.map (Value.int .i64)) ∧ Later u u' w ∧ Below w.heap.size w w'

theorem begun (w : World) (a b c : Value) : ∀ W, (w.alloc (.cells #[a, b, c] 39)).alloc (.cells #[.int .i64 0, .slice none 0 0, .int .i64 0] 39) = W →
    Boxed W w.heap.size a b c ∧ Boxed W (w.heap.size + 1) (.int .i64 0) (.slice none 0 0) (.int .i64 0) ∧ Below w.heap.size w W := by
  rintro W rfl
  refine ⟨(Boxed.new _ _ _ _).alloc _, ?_, ((Below.refl _ _).alloc (Nat.le_refl _) _).alloc (by simp) _⟩
  have := Boxed.new (w.alloc (.cells #[a, b, c] 39)) (.int .i64 0) (.slice none 0 0) (.int .i64 0)
  simpa using this

theorem refNew (n : Int) (w : World) :
    Calls Try.prog 33 #[.int .i64 n] w fun e w' => e = .returned (.agg #[.int .i64 (sizeOf' n), .slice none 0 0, .int .i64 0]) ∧ Below w.heap.size w w' := by
  rcases (show n < 0 ∨ n = 0 ∨ n = 1000 ∨ 1000 < n ∨ (0 < n ∧ n < 1000) from by omega) with h | rfl | rfl | h | ⟨h, h'⟩
  · have e0 : sizeOf' n = 0 := by unfold sizeOf'; (repeat' split) <;> omega
    rw [e0]
    clear e0
    go_enter Try.func33, Try.ntmps33
    go_wp2
    exact bodyPost_ret (v := .agg #[.int .i64 0, .slice none 0 0, .int .i64 0]) (by simp [results, Try.results33, go_sem]) rfl ⟨rfl, (Below.refl _ _).alloc (Nat.le_refl _) _⟩
  · have e0 : sizeOf' 0 = 0 := by unfold sizeOf'; (repeat' split) <;> omega
    rw [e0]
    clear e0
    go_enter Try.func33, Try.ntmps33
    go_wp2
    exact bodyPost_ret (v := .agg #[.int .i64 0, .slice none 0 0, .int .i64 0]) (by simp [results, Try.results33, go_sem]) rfl ⟨rfl, (Below.refl _ _).alloc (Nat.le_refl _) _⟩
  · have e0 : sizeOf' 1000 = 1000 := by unfold sizeOf'; (repeat' split) <;> omega
    rw [e0]
    clear e0
    go_enter Try.func33, Try.ntmps33
    go_wp2
    exact bodyPost_ret (v := .agg #[.int .i64 1000, .slice none 0 0, .int .i64 0]) (by simp [results, Try.results33, go_sem]) rfl ⟨rfl, (Below.refl _ _).alloc (Nat.le_refl _) _⟩
  · have e0 : sizeOf' n = 1000 := by unfold sizeOf'; (repeat' split) <;> omega
    rw [e0]
    clear e0
    go_enter Try.func33, Try.ntmps33
    go_wp2
    exact bodyPost_ret (v := .agg #[.int .i64 1000, .slice none 0 0, .int .i64 0]) (by simp [results, Try.results33, go_sem]) rfl ⟨rfl, (Below.refl _ _).alloc (Nat.le_refl _) _⟩
  · have e0 : sizeOf' n = n := by unfold sizeOf'; (repeat' split) <;> omega
    rw [e0]
    clear e0
    go_enter Try.func33, Try.ntmps33
    go_wp2
    exact bodyPost_ret (v := .agg #[.int .i64 n, .slice none 0 0, .int .i64 0]) (by simp [results, Try.results33, go_sem]) rfl ⟨rfl, (Below.refl _ _).alloc (Nat.le_refl _) _⟩

section
variable {w : World} {B : Nat} {u : Value} {size : Int} {zs : List Int} {st : Int}

set_option maxRecDepth 100000 in
set_option maxHeartbeats 1600000 in
theorem refAllocOk (h : w.ownsRow B 2 1 u zs.length (zs.map (Value.int .i64))) (hB : B ≤ w.heap.size) (m : Nat) (s1 : size ≤ 1000) (s2 : (zs.length : Int) ≤ size) (hm : (m : Int) ≤ size - zs.length) (k0 : 0 ≤ st) (k1 : st < 1000000) :
    Calls Try.prog 34 #[.agg #[.int .i64 size, u, .int .i64 st], .int .i64 (m : Int)] w fun e w' => ∃ u', e = .returned (.tuple #[.agg #[.int .i64 size, u', .int .i64 (st + 1)], .int .i64 (zs.length : Int), .int .i64 0]) ∧ Left w B u (zs ++ List.replicate m 0) u' w' := by
  obtain ⟨ao, cap, rfl⟩ := ownShape h
  obtain ⟨i0, hi, hz0, hz1, hz2⟩ := info_parts infoInt64
  have HI := Lib.hid hi
  have H0 := Lib.hid hz0
  have H1 := Lib.hid hz1
  have H2 := Lib.hid hz2
  clear hi hz0 hz1 hz2
  go_enter Try.func34, Try.ntmps34
  go_wp2_with fail
  generalize hW : (w.alloc (.cells #[.int .i64 size, .slice ao zs.length cap, .int .i64 st] 39)).alloc (.cells #[.int .i64 0, .slice none 0 0, .int .i64 0] 39) = W
  obtain ⟨X0, X1, hb0⟩ := begun w _ _ _ W hW
  clear hW
  refine (freshAny size st (own_keep h hb0) (by omega)).mono ?_
  rintro e w1 ⟨u1, rfl, ho1, b1⟩
  obtain ⟨ao1, cap1, rfl⟩ := ownShape ho1
  have HX1 := Lib.hid (X1.keep b1)
  have HB1 := Lib.hid (hb0.trans (b1.mono hb0.size))
  have HO1 := Lib.hid ho1
  have hN := Nat.lt_of_lt_of_le X1.lt b1.size
  have hN1 : ¬ w1.heap.size = w.heap.size + 1 := by omega
  have hN2 : ¬ w.heap.size + 1 = w1.heap.size := by omega
  have HZ0 := Lib.hid hb0.size
  have HZ1 := Lib.hid b1.size
  clear X0 X1 b1 ho1 hb0 h
  go_upto_region 7 with (fail)
  generalize hW2 : w1.alloc (.cells #[.int .i64 size, .slice ao1 zs.length cap1, .int .i64 st] 39) = W2
  have HX2 := Lib.hid (show Boxed W2 w1.heap.size (.int .i64 size) (.slice ao1 zs.length cap1) (.int .i64 st) by subst hW2; exact Boxed.new _ _ _ _)
  have HX1' := Lib.hid (show Boxed W2 (w.heap.size + 1) (.int .i64 0) (.slice none 0 0) (.int .i64 0) by subst hW2; exact HX1.out.alloc _)
  have HB2 := Lib.hid (show Below w.heap.size w W2 by subst hW2; exact HB1.out.alloc HB1.out.size _)
  have HO2 := Lib.hid (show W2.ownsRow W.heap.size 2 1 (.slice ao1 zs.length cap1) zs.length (zs.map (Value.int .i64)) by subst hW2; exact HO1.out.alloc _)
  have HZ2 := Lib.hid (show W.heap.size ≤ W2.heap.size by subst hW2; have := HZ1.out; simp; omega)
  clear hW2 HX1 HO1
  have c1 := HX2.out.c1
  go_wp2_with (at_builtin; refine wpList_append_zeros rfl (.tmp 27) (.tmp 28) 22 3 rfl W.heap.size 2 .i64 i0 (.int .i64 0) Try.underlying22 Try.underlying3 HI.out H0.out H1.out H2.out rfl rfl (.slice ao1 zs.length cap1) zs.length _ rfl HO2.out m rfl (by omega) (by omega) HZ2.out ?_; intro v3 w3 ho hg hl; obtain ⟨ao3, cap3, rfl⟩ := ownShape ho; have Y2 := HX2.out.grown hg (own_ne_boxed HO2.out HX2.out); have Y1 := HX1'.out.grown hg (own_ne_boxed HO2.out HX1'.out); have d0 := Y2.c0; have d1 := Y2.c1; have d2 := Y2.c2; have df := Y2.f; have e0 := Y1.c0; have e1 := Y1.c1; have e2 := Y1.c2; have ef := Y1.f; have HO := Lib.hid ho; have HG := Lib.hid hg; have HY2 := Lib.hid Y2; have HY1 := Lib.hid Y1; clear ho hg hl Y2 Y1)
  have Z := ((((HY1.out.other (q := ⟨w1.heap.size, 1, none⟩) (by simp; omega) (.slice ao3 (zs.length + m) cap3)).other (q := ⟨w1.heap.size, 2, none⟩) (by simp; omega) (.int .i64 (st + 1))).set0 (.int .i64 size)).set1 (.slice ao3 (zs.length + m) cap3)).set2 (.int .i64 (st + 1))
  have n2 := own_ne_boxed HO.out HY2.out
  have n1 := own_ne_boxed HO.out HY1.out
  refine bodyPost_ret (v := .tuple #[.agg #[.int .i64 size, .slice ao3 (zs.length + m) cap3, .int .i64 (st + 1)], .int .i64 (zs.length : Int), .int .i64 0]) (by simp [results, Try.results34, go_sem, Z.c0, Z.c1, Z.c2]) rfl ⟨_, rfl, ?_, ?_, ?_⟩
  · have := ownsRow_setCell_other (a := ⟨w.heap.size + 1, 2, none⟩) (ownsRow_setCell_other (a := ⟨w.heap.size + 1, 1, none⟩) (ownsRow_setCell_other (a := ⟨w.heap.size + 1, 0, none⟩) (ownsRow_setCell_other (a := ⟨w1.heap.size, 2, none⟩) (ownsRow_setCell_other (a := ⟨w1.heap.size, 1, none⟩) HO.out n2 (.slice ao3 (zs.length + m) cap3)) n2 (.int .i64 (st + 1))) n1 (.int .i64 size)) n1 (.slice ao3 (zs.length + m) cap3)) n1 (.int .i64 (st + 1))
    have := own_le this (Nat.le_trans hB HZ0.out)
    simpa using this
  · exact fun g hg => .inr (Nat.le_trans HZ0.out (HO.out.lt g hg).1)
  · exact (((((HB2.out.grown HG.out HB2.out.size (fun g hg => Nat.le_trans HZ0.out (HO2.out.lt g hg).1)).setCell (by simp; omega) _).setCell (by simp; omega) _).setCell (by simp) _).setCell (by simp) _).setCell (by simp) _

end

end Go.Proofs.Ytfnjbbokbdddpaa.M2
namespace Go.Proofs.Ytfnjbbokbdddpaa.M2
open Go.RowKit

section
variable {w : World} {B : Nat} {u : Value} {size : Int} {zs : List Int} {st : Int}

set_option maxRecDepth 100000 in
set_option maxHeartbeats 1600000 in
theorem refLoadOut (h : w.ownsRow B 2 1 u zs.length (zs.map (Value.int .i64))) (_ : B ≤ w.heap.size) (a : Int) (h0 : a < 0 ∨ zs.length ≤ a) :
    Calls Try.prog 68 #[.agg #[.int .i64 size, u, .int .i64 st], .int .i64 a] w fun e w' => ∃ u', e = .returned (.tuple #[.agg #[.int .i64 size, u', .int .i64 st], .int .i64 0, .int .i64 10]) ∧ Left w B u zs u' w' := by
  obtain ⟨ao, cap, rfl⟩ := ownShape h
  go_enter Try.func68, Try.ntmps68
  go_wp2_with fail
  generalize hW : (w.alloc (.cells #[.int .i64 size, .slice ao zs.length cap, .int .i64 st] 39)).alloc (.cells #[.int .i64 0, .slice none 0 0, .int .i64 0] 39) = W
  obtain ⟨X0, X1, hb0⟩ := begun w _ _ _ W hW
  clear hW
  refine (hasOut ao zs.length cap size st a W h0).mono ?_
  rintro e w1 ⟨rfl, b1⟩
  have HY0 := Lib.hid (X0.keep b1)
  have HY1 := Lib.hid (X1.keep b1)
  have HB1 := Lib.hid (hb0.trans (b1.mono hb0.size))
  have HO1 := Lib.hid (own_keep (own_keep h hb0) b1)
  clear X0 X1 b1 h
  have d0 := HY0.out.c0
  have d1 := HY0.out.c1
  have d2 := HY0.out.c2
  have df := HY0.out.f
  have e0 := HY1.out.c0
  have e1 := HY1.out.c1
  have e2 := HY1.out.c2
  have ef := HY1.out.f
  clear h0 hb0
  go_wp2
  have Z := ((HY1.out.set0 (.int .i64 size)).set1 (.slice ao zs.length cap)).set2 (.int .i64 st)
  have n1 := own_ne_boxed HO1.out HY1.out
  refine bodyPost_ret (v := .tuple #[.agg #[.int .i64 size, (.slice ao zs.length cap), .int .i64 st], .int .i64 0, .int .i64 10]) (by simp [results, Try.results68, go_sem, Z.c0, Z.c1, Z.c2]) rfl ⟨_, rfl, ?_, Later.refl _ _, ?_⟩
  · exact ownsRow_setCell_other (ownsRow_setCell_other (ownsRow_setCell_other HO1.out n1 _) n1 _) n1 _
  · exact ((HB1.out.setCell (by simp) _).setCell (by simp) _).setCell (by simp) _

set_option maxRecDepth 100000 in
set_option maxHeartbeats 1600000 in
theorem refStoreOut (h : w.ownsRow B 2 1 u zs.length (zs.map (Value.int .i64))) (_ : B ≤ w.heap.size) (a x : Int) (h0 : a < 0 ∨ zs.length ≤ a) :
    Calls Try.prog 37 #[.agg #[.int .i64 size, u, .int .i64 st], .int .i64 a, .int .i64 x] w fun e w' => ∃ u', e = .returned (.tuple #[.agg #[.int .i64 size, u', .int .i64 st], .int .i64 10]) ∧ Left w B u zs u' w' := by
  obtain ⟨ao, cap, rfl⟩ := ownShape h
  go_enter Try.func37, Try.ntmps37
  go_wp2_with fail
  generalize hW : (w.alloc (.cells #[.int .i64 size, .slice ao zs.length cap, .int .i64 st] 39)).alloc (.cells #[.int .i64 0, .slice none 0 0, .int .i64 0] 39) = W
  obtain ⟨X0, X1, hb0⟩ := begun w _ _ _ W hW
  clear hW
  refine (hasOut ao zs.length cap size st a W h0).mono ?_
  rintro e w1 ⟨rfl, b1⟩
  have HY0 := Lib.hid (X0.keep b1)
  have HY1 := Lib.hid (X1.keep b1)
  have HB1 := Lib.hid (hb0.trans (b1.mono hb0.size))
  have HO1 := Lib.hid (own_keep (own_keep h hb0) b1)
  clear X0 X1 b1 h
  have d0 := HY0.out.c0
  have d1 := HY0.out.c1
  have d2 := HY0.out.c2
  have df := HY0.out.f
  have e0 := HY1.out.c0
  have e1 := HY1.out.c1
  have e2 := HY1.out.c2
  have ef := HY1.out.f
  clear h0 hb0
  go_wp2
  have Z := ((HY1.out.set0 (.int .i64 size)).set1 (.slice ao zs.length cap)).set2 (.int .i64 st)
  have n1 := own_ne_boxed HO1.out HY1.out
  refine bodyPost_ret (v := .tuple #[.agg #[.int .i64 size, (.slice ao zs.length cap), .int .i64 st], .int .i64 10]) (by simp [results, Try.results37, go_sem, Z.c0, Z.c1, Z.c2]) rfl ⟨_, rfl, ?_, Later.refl _ _, ?_⟩
  · exact ownsRow_setCell_other (ownsRow_setCell_other (ownsRow_setCell_other HO1.out n1 _) n1 _) n1 _
  · exact ((HB1.out.setCell (by simp) _).setCell (by simp) _).setCell (by simp) _

set_option maxRecDepth 100000 in
set_option maxHeartbeats 1600000 in
theorem refSwapOut (h : w.ownsRow B 2 1 u zs.length (zs.map (Value.int .i64))) (_ : B ≤ w.heap.size) (a old x : Int) (h0 : a < 0 ∨ zs.length ≤ a) :
    Calls Try.prog 48 #[.agg #[.int .i64 size, u, .int .i64 st], .int .i64 a, .int .i64 old, .int .i64 x] w fun e w' => ∃ u', e = .returned (.tuple #[.agg #[.int .i64 size, u', .int .i64 st], .bool false, .int .i64 10]) ∧ Left w B u zs u' w' := by
  obtain ⟨ao, cap, rfl⟩ := ownShape h
  go_enter Try.func48, Try.ntmps48
  go_wp2_with fail
  generalize hW : (w.alloc (.cells #[.int .i64 size, .slice ao zs.length cap, .int .i64 st] 39)).alloc (.cells #[.int .i64 0, .slice none 0 0, .int .i64 0] 39) = W
  obtain ⟨X0, X1, hb0⟩ := begun w _ _ _ W hW
  clear hW
  refine (hasOut ao zs.length cap size st a W h0).mono ?_
  rintro e w1 ⟨rfl, b1⟩
  have HY0 := Lib.hid (X0.keep b1)
  have HY1 := Lib.hid (X1.keep b1)
  have HB1 := Lib.hid (hb0.trans (b1.mono hb0.size))
  have HO1 := Lib.hid (own_keep (own_keep h hb0) b1)
  clear X0 X1 b1 h
  have d0 := HY0.out.c0
  have d1 := HY0.out.c1
  have d2 := HY0.out.c2
  have df := HY0.out.f
  have e0 := HY1.out.c0
  have e1 := HY1.out.c1
  have e2 := HY1.out.c2
  have ef := HY1.out.f
  clear h0 hb0
  go_wp2
  have Z := ((HY1.out.set0 (.int .i64 size)).set1 (.slice ao zs.length cap)).set2 (.int .i64 st)
  have n1 := own_ne_boxed HO1.out HY1.out
  refine bodyPost_ret (v := .tuple #[.agg #[.int .i64 size, (.slice ao zs.length cap), .int .i64 st], .bool false, .int .i64 10]) (by simp [results, Try.results48, go_sem, Z.c0, Z.c1, Z.c2]) rfl ⟨_, rfl, ?_, Later.refl _ _, ?_⟩
  · exact ownsRow_setCell_other (ownsRow_setCell_other (ownsRow_setCell_other HO1.out n1 _) n1 _) n1 _
  · exact ((HB1.out.setCell (by simp) _).setCell (by simp) _).setCell (by simp) _

set_option maxRecDepth 100000 in
set_option maxHeartbeats 1600000 in
theorem refLoadIn (h : w.ownsRow B 2 1 u zs.length (zs.map (Value.int .i64))) (_ : B ≤ w.heap.size) (a : Int) (h0 : 0 ≤ a) (h1 : a < zs.length) (k0 : 0 ≤ st) (k1 : st < 1000000) :
    Calls Try.prog 68 #[.agg #[.int .i64 size, u, .int .i64 st], .int .i64 a] w fun e w' => ∃ u', e = .returned (.tuple #[.agg #[.int .i64 size, u', .int .i64 (st + 1)], .int .i64 (zs.getD a.toNat 0), .int .i64 0]) ∧ Left w B u zs u' w' := by
  obtain ⟨g, cap, rfl, hgl⟩ := own_row h (by omega)
  obtain ⟨y, hy⟩ : ∃ y, zs.getD a.toNat 0 = y := ⟨_, rfl⟩
  rw [hy]
  go_enter Try.func68, Try.ntmps68
  go_wp2_with fail
  generalize hW : (w.alloc (.cells #[.int .i64 size, .slice (some ⟨g, 0, none⟩) zs.length cap, .int .i64 st] 39)).alloc (.cells #[.int .i64 0, .slice none 0 0, .int .i64 0] 39) = W
  obtain ⟨X0, X1, hb0⟩ := begun w _ _ _ W hW
  clear hW
  refine (hasIn (some ⟨g, 0, none⟩) zs.length cap size st a W h0 h1).mono ?_
  rintro e w1 ⟨rfl, b1⟩
  have HY0 := Lib.hid (X0.keep b1)
  have HY1 := Lib.hid (X1.keep b1)
  have HB1 := Lib.hid (hb0.trans (b1.mono hb0.size))
  have HO1 := Lib.hid (own_keep (own_keep h hb0) b1)
  clear X0 X1 b1 h
  have d0 := HY0.out.c0
  have d1 := HY0.out.c1
  have d2 := HY0.out.c2
  have df := HY0.out.f
  have e0 := HY1.out.c0
  have e1 := HY1.out.c1
  have e2 := HY1.out.c2
  have ef := HY1.out.f
  clear hb0
  go_wp2
  generalize hW3 : w1.setCell ⟨w.heap.size, 2, none⟩ (.int .i64 (st + 1)) = W3
  have n0 := own_ne_boxed HO1.out HY0.out
  have HZ0 := Lib.hid (show Boxed W3 w.heap.size (.int .i64 size) (.slice (some ⟨g, 0, none⟩) zs.length cap) (.int .i64 (st + 1)) by subst hW3; exact HY0.out.set2 _)
  have HZ1 := Lib.hid (show Boxed W3 (w.heap.size + 1) (.int .i64 0) (.slice none 0 0) (.int .i64 0) by subst hW3; exact HY1.out.other (by simp) _)
  have HO3 := Lib.hid (show W3.ownsRow B 2 1 (.slice (some ⟨g, 0, none⟩) zs.length cap) zs.length (zs.map (Value.int .i64)) by subst hW3; exact ownsRow_setCell_other HO1.out n0 _)
  have HB3 := Lib.hid (show Below w.heap.size w W3 by subst hW3; exact HB1.out.setCell (Nat.le_refl _) _)
  clear hW3 n0 HY0 HY1 HO1 HB1 d0 d1 d2 df e0 e1 e2 ef
  have d0 := HZ0.out.c0
  have d1 := HZ0.out.c1
  have d2 := HZ0.out.c2
  have df := HZ0.out.f
  have e0 := HZ1.out.c0
  have e1 := HZ1.out.c1
  have e2 := HZ1.out.c2
  have ef := HZ1.out.f
  obtain ⟨cc, _⟩ := own_cell HO3.out h0 h1
  rw [hy] at cc
  have HYY := Lib.hid hy
  clear hy
  go_region
  all_goals go_wp2
  all_goals
    have Z := ((HZ1.out.set0 (.int .i64 size)).set1 (.slice (some ⟨g, 0, none⟩) zs.length cap)).set2 (.int .i64 (st + 1))
    have n1 := own_ne_boxed HO3.out HZ1.out
    refine bodyPost_ret (v := .tuple #[.agg #[.int .i64 size, .slice (some ⟨g, 0, none⟩) zs.length cap, .int .i64 (st + 1)], .int .i64 y, .int .i64 0]) (by simp [results, Try.results68, go_sem, Z.c0, Z.c1, Z.c2]) rfl ⟨_, rfl, ?_, Later.refl _ _, ?_⟩
    · exact ownsRow_setCell_other (ownsRow_setCell_other (ownsRow_setCell_other (w := W3.drew) HO3.out n1 _) n1 _) n1 _
    · exact ((HB3.out.drew.setCell (by simp) _).setCell (by simp) _).setCell (by simp) _

set_option maxRecDepth 100000 in
set_option maxHeartbeats 1600000 in
theorem refStoreIn (h : w.ownsRow B 2 1 u zs.length (zs.map (Value.int .i64))) (hB : B ≤ w.heap.size) (a x : Int) (h0 : 0 ≤ a) (h1 : a < zs.length) (hl : zs.length ≤ 1000) (k0 : 0 ≤ st) (k1 : st < 1000000) :
    Calls Try.prog 37 #[.agg #[.int .i64 size, u, .int .i64 st], .int .i64 a, .int .i64 x] w fun e w' => ∃ u', e = .returned (.tuple #[.agg #[.int .i64 size, u', .int .i64 (st + 1)], .int .i64 0]) ∧ Left w B u (zs.set a.toNat x) u' w' := by
  obtain ⟨g, cap, rfl, hgl⟩ := own_row h (by omega)
  go_enter Try.func37, Try.ntmps37
  go_wp2_with fail
  generalize hW : (w.alloc (.cells #[.int .i64 size, .slice (some ⟨g, 0, none⟩) zs.length cap, .int .i64 st] 39)).alloc (.cells #[.int .i64 0, .slice none 0 0, .int .i64 0] 39) = W
  obtain ⟨X0, X1, hb0⟩ := begun w _ _ _ W hW
  clear hW
  refine (hasIn (some ⟨g, 0, none⟩) zs.length cap size st a W h0 h1).mono ?_
  rintro e w1 ⟨rfl, b1⟩
  have HY0 := Lib.hid (X0.keep b1)
  have HY1 := Lib.hid (X1.keep b1)
  have HB1 := Lib.hid (hb0.trans (b1.mono hb0.size))
  have HO1 := Lib.hid (own_keep (own_keep h hb0) b1)
  clear X0 X1 b1 h
  have d0 := HY0.out.c0
  have d1 := HY0.out.c1
  have d2 := HY0.out.c2
  have df := HY0.out.f
  have e0 := HY1.out.c0
  have e1 := HY1.out.c1
  have e2 := HY1.out.c2
  have ef := HY1.out.f
  clear hb0
  go_wp2_with fail
  refine (freshAny size st HO1.out hl).mono ?_
  rintro e w2 ⟨u2, rfl, ho2, b2⟩
  obtain ⟨g2, cap2, rfl, hg2⟩ := own_row ho2 (by omega)
  have hN := Nat.lt_of_lt_of_le HY1.out.lt b2.size
  have HX1 := Lib.hid (HY1.out.keep b2)
  have HB2 := Lib.hid (HB1.out.trans (b2.mono HB1.out.size))
  have HO2 := Lib.hid ho2
  have HZ1 := Lib.hid HB1.out.size
  clear b2 ho2 HY0 HY1 HO1 HB1 d0 d1 d2 df e0 e1 e2 ef
  have hN1 : ¬ w2.heap.size = w.heap.size + 1 := by omega
  have hN2 : ¬ w.heap.size + 1 = w2.heap.size := by omega
  go_upto_region 4 with (fail)
  generalize hW3 : w2.alloc (.cells #[.int .i64 size, .slice (some ⟨g2, 0, none⟩) zs.length cap2, .int .i64 st] 39) = W3
  have HX3 := Lib.hid (show Boxed W3 w2.heap.size (.int .i64 size) (.slice (some ⟨g2, 0, none⟩) zs.length cap2) (.int .i64 st) by subst hW3; exact Boxed.new _ _ _ _)
  have HX1' := Lib.hid (show Boxed W3 (w.heap.size + 1) (.int .i64 0) (.slice none 0 0) (.int .i64 0) by subst hW3; exact HX1.out.alloc _)
  have HB3 := Lib.hid (show Below w.heap.size w W3 by subst hW3; exact HB2.out.alloc HB2.out.size _)
  have HO3 := Lib.hid (show W3.ownsRow w1.heap.size 2 1 (.slice (some ⟨g2, 0, none⟩) zs.length cap2) zs.length (zs.map (Value.int .i64)) by subst hW3; exact HO2.out.alloc _)
  clear hW3 HX1 HO2 HB2
  have g3 := own_ne_boxed HO3.out HX3.out
  have g1 := own_ne_boxed HO3.out HX1'.out
  simp only [Value.ownBlock, ne_eq, Option.some.injEq] at g3 g1
  have g3' : ¬ w2.heap.size = g2 := fun e => g3 e.symm
  have g1' : ¬ w.heap.size + 1 = g2 := fun e => g1 e.symm
  have d0 := HX3.out.c0
  have d1 := HX3.out.c1
  have d2 := HX3.out.c2
  have df := HX3.out.f
  have e0 := HX1'.out.c0
  have e1 := HX1'.out.c1
  have e2 := HX1'.out.c2
  have ef := HX1'.out.f
  obtain ⟨cc, cf⟩ := own_cell HO3.out h0 h1
  have hg2b : w.heap.size ≤ g2 := Nat.le_trans HZ1.out (HO3.out.lt g2 rfl).1
  go_wp2
  have Z := (((((HX1'.out.other (q := ⟨g2, a.toNat, none⟩) (by simpa using g1) (.int .i64 x)).other (q := ⟨w2.heap.size, 2, none⟩) (by simp; omega) (.int .i64 (st + 1))).set0 (.int .i64 size)).set1 (.slice (some ⟨g2, 0, none⟩) zs.length cap2)).set2 (.int .i64 (st + 1)))
  have O := own_le (ownsRow_setCell_other (a := ⟨w.heap.size + 1, 2, none⟩) (ownsRow_setCell_other (a := ⟨w.heap.size + 1, 1, none⟩) (ownsRow_setCell_other (a := ⟨w.heap.size + 1, 0, none⟩) (ownsRow_setCell_other (a := ⟨w2.heap.size, 2, none⟩) (HO3.out.stored a.toNat (.int .i64 x)).1 (by simpa [Value.ownBlock] using g3) (.int .i64 (st + 1))) (by simpa [Value.ownBlock] using g1) (.int .i64 size)) (by simpa [Value.ownBlock] using g1) (.slice (some ⟨g2, 0, none⟩) zs.length cap2)) (by simpa [Value.ownBlock] using g1) (.int .i64 (st + 1))) (Nat.le_trans hB HZ1.out)
  refine bodyPost_ret (v := .tuple #[.agg #[.int .i64 size, .slice (some ⟨g2, 0, none⟩) zs.length cap2, .int .i64 (st + 1)], .int .i64 0]) (by simp [results, Try.results37, go_sem, Z.c0, Z.c1, Z.c2]) rfl ⟨_, rfl, ?_, ?_, ?_⟩
  · simpa [List.map_set] using O
  · exact fun g hg => .inr (by simp only [Value.ownBlock, Option.some.injEq] at hg; omega)
  · exact (((((HB3.out.setCell (p := ⟨g2, a.toNat, none⟩) hg2b _).setCell (p := ⟨w2.heap.size, 2, none⟩) (by simp; omega) _).setCell (p := ⟨w.heap.size + 1, 0, none⟩) (by simp) _).setCell (p := ⟨w.heap.size + 1, 1, none⟩) (by simp) _).setCell (p := ⟨w.heap.size + 1, 2, none⟩) (by simp) _)

set_option maxRecDepth 100000 in
set_option maxHeartbeats 1600000 in
theorem refSwapIn (h : w.ownsRow B 2 1 u zs.length (zs.map (Value.int .i64))) (hB : B ≤ w.heap.size) (a old x : Int) (h0 : 0 ≤ a) (h1 : a < zs.length) (ho : zs.getD a.toNat 0 = old) (hl : zs.length ≤ 1000) (k0 : 0 ≤ st) (k1 : st < 1000000) :
    Calls Try.prog 48 #[.agg #[.int .i64 size, u, .int .i64 st], .int .i64 a, .int .i64 old, .int .i64 x] w fun e w' => ∃ u', e = .returned (.tuple #[.agg #[.int .i64 size, u', .int .i64 (st + 1)], .bool true, .int .i64 0]) ∧ Left w B u (zs.set a.toNat x) u' w' := by
  obtain ⟨g, cap, rfl, hgl⟩ := own_row h (by omega)
  go_enter Try.func48, Try.ntmps48
  go_wp2_with fail
  generalize hW : (w.alloc (.cells #[.int .i64 size, .slice (some ⟨g, 0, none⟩) zs.length cap, .int .i64 st] 39)).alloc (.cells #[.int .i64 0, .slice none 0 0, .int .i64 0] 39) = W
  obtain ⟨X0, X1, hb0⟩ := begun w _ _ _ W hW
  clear hW
  refine (hasIn (some ⟨g, 0, none⟩) zs.length cap size st a W h0 h1).mono ?_
  rintro e w1 ⟨rfl, b1⟩
  have HY0 := Lib.hid (X0.keep b1)
  have HY1 := Lib.hid (X1.keep b1)
  have HB1 := Lib.hid (hb0.trans (b1.mono hb0.size))
  have HO1 := Lib.hid (own_keep (own_keep h hb0) b1)
  clear X0 X1 b1 h
  have d0 := HY0.out.c0
  have d1 := HY0.out.c1
  have d2 := HY0.out.c2
  have df := HY0.out.f
  have e0 := HY1.out.c0
  have e1 := HY1.out.c1
  have e2 := HY1.out.c2
  have ef := HY1.out.f
  clear hb0
  go_wp2_with fail
  refine (freshAny size st HO1.out hl).mono ?_
  rintro e w2 ⟨u2, rfl, ho2, b2⟩
  obtain ⟨g2, cap2, rfl, hg2⟩ := own_row ho2 (by omega)
  have hN := Nat.lt_of_lt_of_le HY1.out.lt b2.size
  have HX1 := Lib.hid (HY1.out.keep b2)
  have HB2 := Lib.hid (HB1.out.trans (b2.mono HB1.out.size))
  have HO2 := Lib.hid ho2
  have HZ1 := Lib.hid HB1.out.size
  clear b2 ho2 HY0 HY1 HO1 HB1 d0 d1 d2 df e0 e1 e2 ef
  have hN1 : ¬ w2.heap.size = w.heap.size + 1 := by omega
  have hN2 : ¬ w.heap.size + 1 = w2.heap.size := by omega
  go_upto_region 4 with (fail)
  generalize hW3 : w2.alloc (.cells #[.int .i64 size, .slice (some ⟨g2, 0, none⟩) zs.length cap2, .int .i64 st] 39) = W3
  have HX3 := Lib.hid (show Boxed W3 w2.heap.size (.int .i64 size) (.slice (some ⟨g2, 0, none⟩) zs.length cap2) (.int .i64 st) by subst hW3; exact Boxed.new _ _ _ _)
  have HX1' := Lib.hid (show Boxed W3 (w.heap.size + 1) (.int .i64 0) (.slice none 0 0) (.int .i64 0) by subst hW3; exact HX1.out.alloc _)
  have HB3 := Lib.hid (show Below w.heap.size w W3 by subst hW3; exact HB2.out.alloc HB2.out.size _)
  have HO3 := Lib.hid (show W3.ownsRow w1.heap.size 2 1 (.slice (some ⟨g2, 0, none⟩) zs.length cap2) zs.length (zs.map (Value.int .i64)) by subst hW3; exact HO2.out.alloc _)
  clear hW3 HX1 HO2 HB2
  have g3 := own_ne_boxed HO3.out HX3.out
  have g1 := own_ne_boxed HO3.out HX1'.out
  simp only [Value.ownBlock, ne_eq, Option.some.injEq] at g3 g1
  have g3' : ¬ w2.heap.size = g2 := fun e => g3 e.symm
  have g1' : ¬ w.heap.size + 1 = g2 := fun e => g1 e.symm
  have d0 := HX3.out.c0
  have d1 := HX3.out.c1
  have d2 := HX3.out.c2
  have df := HX3.out.f
  have e0 := HX1'.out.c0
  have e1 := HX1'.out.c1
  have e2 := HX1'.out.c2
  have ef := HX1'.out.f
  obtain ⟨cc, cf⟩ := own_cell HO3.out h0 h1
  rw [ho] at cc
  clear ho
  have hg2b : w.heap.size ≤ g2 := Nat.le_trans HZ1.out (HO3.out.lt g2 rfl).1
  go_wp2
  have Z := (((((HX1'.out.other (q := ⟨w2.heap.size, 2, none⟩) (by simp; omega) (.int .i64 (st + 1))).other (q := ⟨g2, a.toNat, none⟩) (by simpa using g1) (.int .i64 x)).set0 (.int .i64 size)).set1 (.slice (some ⟨g2, 0, none⟩) zs.length cap2)).set2 (.int .i64 (st + 1)))
  have O := own_le (ownsRow_setCell_other (a := ⟨w.heap.size + 1, 2, none⟩) (ownsRow_setCell_other (a := ⟨w.heap.size + 1, 1, none⟩) (ownsRow_setCell_other (a := ⟨w.heap.size + 1, 0, none⟩) ((ownsRow_setCell_other (a := ⟨w2.heap.size, 2, none⟩) HO3.out (by simpa [Value.ownBlock] using g3) (.int .i64 (st + 1))).stored a.toNat (.int .i64 x)).1 (by simpa [Value.ownBlock] using g1) (.int .i64 size)) (by simpa [Value.ownBlock] using g1) (.slice (some ⟨g2, 0, none⟩) zs.length cap2)) (by simpa [Value.ownBlock] using g1) (.int .i64 (st + 1))) (Nat.le_trans hB HZ1.out)
  refine bodyPost_ret (v := .tuple #[.agg #[.int .i64 size, .slice (some ⟨g2, 0, none⟩) zs.length cap2, .int .i64 (st + 1)], .bool true, .int .i64 0]) (by simp [results, Try.results48, go_sem, Z.c0, Z.c1, Z.c2]) rfl ⟨_, rfl, ?_, ?_, ?_⟩
  · simpa [List.map_set] using O
  · exact fun g hg => .inr (by simp only [Value.ownBlock, Option.some.injEq] at hg; omega)
  · exact (((((HB3.out.setCell (p := ⟨w2.heap.size, 2, none⟩) (by simp; omega) _).setCell (p := ⟨g2, a.toNat, none⟩) hg2b _).setCell (p := ⟨w.heap.size + 1, 0, none⟩) (by simp) _).setCell (p := ⟨w.heap.size + 1, 1, none⟩) (by simp) _).setCell (p := ⟨w.heap.size + 1, 2, none⟩) (by simp) _)

set_option maxRecDepth 100000 in
set_option maxHeartbeats 1600000 in
theorem refSwapNo (h : w.ownsRow B 2 1 u zs.length (zs.map (Value.int .i64))) (hB : B ≤ w.heap.size) (a old x : Int) (h0 : 0 ≤ a) (h1 : a < zs.length) (ho : zs.getD a.toNat 0 ≠ old) (hl : zs.length ≤ 1000) (k0 : 0 ≤ st) (k1 : st < 1000000) :
    Calls Try.prog 48 #[.agg #[.int .i64 size, u, .int .i64 st], .int .i64 a, .int .i64 old, .int .i64 x] w fun e w' => ∃ u', e = .returned (.tuple #[.agg #[.int .i64 size, u', .int .i64 (st + 1)], .bool false, .int .i64 0]) ∧ Left w B u zs u' w' := by
  obtain ⟨g, cap, rfl, hgl⟩ := own_row h (by omega)
  go_enter Try.func48, Try.ntmps48
  go_wp2_with fail
  generalize hW : (w.alloc (.cells #[.int .i64 size, .slice (some ⟨g, 0, none⟩) zs.length cap, .int .i64 st] 39)).alloc (.cells #[.int .i64 0, .slice none 0 0, .int .i64 0] 39) = W
  obtain ⟨X0, X1, hb0⟩ := begun w _ _ _ W hW
  clear hW
  refine (hasIn (some ⟨g, 0, none⟩) zs.length cap size st a W h0 h1).mono ?_
  rintro e w1 ⟨rfl, b1⟩
  have HY0 := Lib.hid (X0.keep b1)
  have HY1 := Lib.hid (X1.keep b1)
  have HB1 := Lib.hid (hb0.trans (b1.mono hb0.size))
  have HO1 := Lib.hid (own_keep (own_keep h hb0) b1)
  clear X0 X1 b1 h
  have d0 := HY0.out.c0
  have d1 := HY0.out.c1
  have d2 := HY0.out.c2
  have df := HY0.out.f
  have e0 := HY1.out.c0
  have e1 := HY1.out.c1
  have e2 := HY1.out.c2
  have ef := HY1.out.f
  clear hb0
  go_wp2_with fail
  refine (freshAny size st HO1.out hl).mono ?_
  rintro e w2 ⟨u2, rfl, ho2, b2⟩
  obtain ⟨g2, cap2, rfl, hg2⟩ := own_row ho2 (by omega)
  have hN := Nat.lt_of_lt_of_le HY1.out.lt b2.size
  have HX1 := Lib.hid (HY1.out.keep b2)
  have HB2 := Lib.hid (HB1.out.trans (b2.mono HB1.out.size))
  have HO2 := Lib.hid ho2
  have HZ1 := Lib.hid HB1.out.size
  clear b2 ho2 HY0 HY1 HO1 HB1 d0 d1 d2 df e0 e1 e2 ef
  have hN1 : ¬ w2.heap.size = w.heap.size + 1 := by omega
  have hN2 : ¬ w.heap.size + 1 = w2.heap.size := by omega
  go_upto_region 4 with (fail)
  generalize hW3 : w2.alloc (.cells #[.int .i64 size, .slice (some ⟨g2, 0, none⟩) zs.length cap2, .int .i64 st] 39) = W3
  have HX3 := Lib.hid (show Boxed W3 w2.heap.size (.int .i64 size) (.slice (some ⟨g2, 0, none⟩) zs.length cap2) (.int .i64 st) by subst hW3; exact Boxed.new _ _ _ _)
  have HX1' := Lib.hid (show Boxed W3 (w.heap.size + 1) (.int .i64 0) (.slice none 0 0) (.int .i64 0) by subst hW3; exact HX1.out.alloc _)
  have HB3 := Lib.hid (show Below w.heap.size w W3 by subst hW3; exact HB2.out.alloc HB2.out.size _)
  have HO3 := Lib.hid (show W3.ownsRow w1.heap.size 2 1 (.slice (some ⟨g2, 0, none⟩) zs.length cap2) zs.length (zs.map (Value.int .i64)) by subst hW3; exact HO2.out.alloc _)
  clear hW3 HX1 HO2 HB2
  have g3 := own_ne_boxed HO3.out HX3.out
  have g1 := own_ne_boxed HO3.out HX1'.out
  simp only [Value.ownBlock, ne_eq, Option.some.injEq] at g3 g1
  have g3' : ¬ w2.heap.size = g2 := fun e => g3 e.symm
  have g1' : ¬ w.heap.size + 1 = g2 := fun e => g1 e.symm
  have d0 := HX3.out.c0
  have d1 := HX3.out.c1
  have d2 := HX3.out.c2
  have df := HX3.out.f
  have e0 := HX1'.out.c0
  have e1 := HX1'.out.c1
  have e2 := HX1'.out.c2
  have ef := HX1'.out.f
  obtain ⟨cc, cf⟩ := own_cell HO3.out h0 h1
  generalize zs.getD a.toNat 0 = y at *
  have hne : ¬ y = old := ho
  have hg2b : w.heap.size ≤ g2 := Nat.le_trans HZ1.out (HO3.out.lt g2 rfl).1
  go_wp2
  have Z := ((((HX1'.out.other (q := ⟨w2.heap.size, 2, none⟩) (by simp; omega) (.int .i64 (st + 1))).set0 (.int .i64 size)).set1 (.slice (some ⟨g2, 0, none⟩) zs.length cap2)).set2 (.int .i64 (st + 1)))
  have O := own_le (ownsRow_setCell_other (a := ⟨w.heap.size + 1, 2, none⟩) (ownsRow_setCell_other (a := ⟨w.heap.size + 1, 1, none⟩) (ownsRow_setCell_other (a := ⟨w.heap.size + 1, 0, none⟩) (ownsRow_setCell_other (a := ⟨w2.heap.size, 2, none⟩) HO3.out (by simpa [Value.ownBlock] using g3) (.int .i64 (st + 1))) (by simpa [Value.ownBlock] using g1) (.int .i64 size)) (by simpa [Value.ownBlock] using g1) (.slice (some ⟨g2, 0, none⟩) zs.length cap2)) (by simpa [Value.ownBlock] using g1) (.int .i64 (st + 1))) (Nat.le_trans hB HZ1.out)
  refine bodyPost_ret (v := .tuple #[.agg #[.int .i64 size, .slice (some ⟨g2, 0, none⟩) zs.length cap2, .int .i64 (st + 1)], .bool false, .int .i64 0]) (by simp [results, Try.results48, go_sem, Z.c0, Z.c1, Z.c2]) rfl ⟨_, rfl, ?_, ?_, ?_⟩
  · simpa [List.map_set] using O
  · exact fun g hg => .inr (by simp only [Value.ownBlock, Option.some.injEq] at hg; omega)
  · exact ((((HB3.out.setCell (p := ⟨w2.heap.size, 2, none⟩) (by simp; omega) _).setCell (p := ⟨w.heap.size + 1, 0, none⟩) (by simp) _).setCell (p := ⟨w.heap.size + 1, 1, none⟩) (by simp) _).setCell (p := ⟨w.heap.size + 1, 2, none⟩) (by simp) _)

end

end Go.Proofs.Ytfnjbbokbdddpaa.M2
namespace Go.Proofs.Ytfnjbbokbdddpaa.M2
open Go.RowKit

section
variable {w : World} {B p : Nat} {size : Int} {zs : List Int} {st : Int}

end

end Go.Proofs.Ytfnjbbokbdddpaa.M2
