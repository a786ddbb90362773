/-
  Contracts of package word's functions: Op and Res answer the word, OfOp and OfRes the pair or nothing, Asks whether a number is above 0; each leaves all old memory as it was. Contracts of package record: Base, Open, Many, Nth. Conditions: a memory as Mem1 says. Contracts of package record: Nth, See (with the piece that becomes an array), Waits, Told. Conditions: a memory as Mem1 says. Lists of numbers that came in, and what reaperref02.Same tells of two lists of the same numbers. Conditions: none. What the document's own memory (package reaperref02) does: each call tells new values and makes new memory; all old memory is as it was. Conditions: steps below a million, at most 1000 cells. What New, Alloc, Load, At, Store and Swap of the document's memory tell. Conditions: at most 1000 cells, steps below a million.
-/
import Derived.Test.YtikaoikladbdpaaGreatG2116
import Derived.Deep.QuietTactic
import Derived.BigQuiet
import Derived.Lib.Hide
import Derived.Laws.Cover3
import Derived.ChangeSlices
import Derived.OpenShut
import Derived.Deep.Cut
import Derived.RegionTactic
namespace Go.Proofs.YtikaoikladbdpaaGreat.M2
open Go.RowKit

set_option maxRecDepth 100000 in
set_option maxHeartbeats 400000 in
theorem makeOp (k v : Int) (w : World) : Calls Tryz.prog 126 #[.int .u8 k, .int .i32 v] w fun e w' => e = .returned (.agg #[.int .u8 k, .int .i32 v]) ∧ Fresh w w' := by
  go_enter Tryz.func126, Tryz.ntmps126
  go_wp2
  exact bodyPost_ret (v := .agg #[.int .u8 k, .int .i32 v]) (by simp [results, Tryz.results126, go_sem]) rfl ⟨rfl, (Fresh.refl _).alloc _ _⟩

set_option maxRecDepth 100000 in
set_option maxHeartbeats 400000 in
theorem unOp (n : Int) (h0 : 1 ≤ n) (h1 : n ≤ 1099511627776) (w : World) :
    Calls Tryz.prog 125 #[.int .i64 n, .func (.func 126) #[] #[]] w fun e w' => e = .returned (.tuple #[.agg #[.int .u8 (kd n), .int .i32 (vl n)], .bool true]) ∧ Fresh w w' := by
  go_enter Tryz.func125, Tryz.ntmps125
  go_wp2_with fail
  refine (makeOp _ _ _).mono ?_
  rintro e w' ⟨rfl, hf⟩
  have hs : w.heap.size < w'.heap.size := by have := hf.size; simp at this; omega
  have hc := hf.cell
  have hm : ∀ b o, w'.frozen? ⟨b, o, none⟩ = (w.alloc (.cells #[.int .u8 0, .int .i32 0] 38)).frozen? ⟨b, o, none⟩ := fun b o => hf.marks _
  have F := Lib.hid (((Fresh.refl w).alloc #[.int .u8 0, .int .i32 0] 38).trans hf)
  clear hf
  go_wp2
  exact bodyPost_ret (v := .tuple #[.agg #[.int .u8 (kd n), .int .i32 (vl n)], .bool true]) (by simp [results, Tryz.results125, go_sem, hc, kd, vl]) rfl ⟨rfl, (F.out.setCell (by simp) _).setCell (by simp) _⟩

set_option maxRecDepth 100000 in
set_option maxHeartbeats 400000 in
theorem unOpNo (n : Int) (h : n < 1 ∨ 1099511627776 < n) (w : World) :
    Calls Tryz.prog 125 #[.int .i64 n, .func (.func 126) #[] #[]] w fun e w' => e = .returned (.tuple #[.agg #[.int .u8 0, .int .i32 0], .bool false]) ∧ Fresh w w' := by
  rcases h with h | h
  · go_enter Tryz.func125, Tryz.ntmps125
    go_wp2
    exact bodyPost_ret (v := .tuple #[.agg #[.int .u8 0, .int .i32 0], .bool false]) (by simp [results, Tryz.results125, go_sem]) rfl ⟨rfl, ((Fresh.refl _).alloc _ _).alloc _ _⟩
  · have h' : ¬ n < 1 := by omega
    go_enter Tryz.func125, Tryz.ntmps125
    go_wp2
    exact bodyPost_ret (v := .tuple #[.agg #[.int .u8 0, .int .i32 0], .bool false]) (by simp [results, Tryz.results125, go_sem]) rfl ⟨rfl, ((Fresh.refl _).alloc _ _).alloc _ _⟩

set_option maxRecDepth 100000 in
set_option maxHeartbeats 400000 in
theorem ofOp (n : Int) (h0 : 1 ≤ n) (h1 : n ≤ 1099511627776) (w : World) :
    Calls Tryz.prog 117 #[.int .i64 n] w fun e w' => e = .returned (.tuple #[.agg #[.int .u8 (kd n), .int .i32 (vl n)], .bool true]) ∧ Fresh w w' := by
  go_enter Tryz.func117, Tryz.ntmps117
  go_wp2_with fail
  refine (unOp _ h0 h1 _).mono ?_
  rintro e w' ⟨rfl, hf⟩
  have hs : w.heap.size < w'.heap.size := by have := hf.size; simp at this; omega
  have hc := hf.cell
  have hm : ∀ b o, w'.frozen? ⟨b, o, none⟩ = (w.alloc (.cells #[.int .u8 0, .int .i32 0] 38)).frozen? ⟨b, o, none⟩ := fun b o => hf.marks _
  have F := Lib.hid (((Fresh.refl w).alloc #[.int .u8 0, .int .i32 0] 38).trans hf)
  clear hf
  go_wp2
  exact bodyPost_ret (v := .tuple #[.agg #[.int .u8 (kd n), .int .i32 (vl n)], .bool true]) (by simp [results, Tryz.results117, go_sem, hc]) rfl ⟨rfl, (F.out.setCell (by simp) _).setCell (by simp) _⟩

set_option maxRecDepth 100000 in
set_option maxHeartbeats 400000 in
theorem ofOpNo (n : Int) (h : n < 1 ∨ 1099511627776 < n) (w : World) :
    Calls Tryz.prog 117 #[.int .i64 n] w fun e w' => e = .returned (.tuple #[.agg #[.int .u8 0, .int .i32 0], .bool false]) ∧ Fresh w w' := by
  have H := Lib.hid h
  clear h
  go_enter Tryz.func117, Tryz.ntmps117
  go_wp2_with fail
  refine (unOpNo _ H.out _).mono ?_
  rintro e w' ⟨rfl, hf⟩
  have hs : w.heap.size < w'.heap.size := by have := hf.size; simp at this; omega
  have hc := hf.cell
  have hm : ∀ b o, w'.frozen? ⟨b, o, none⟩ = (w.alloc (.cells #[.int .u8 0, .int .i32 0] 38)).frozen? ⟨b, o, none⟩ := fun b o => hf.marks _
  have F := Lib.hid (((Fresh.refl w).alloc #[.int .u8 0, .int .i32 0] 38).trans hf)
  clear hf
  go_wp2
  exact bodyPost_ret (v := .tuple #[.agg #[.int .u8 0, .int .i32 0], .bool false]) (by simp [results, Tryz.results117, go_sem, hc]) rfl ⟨rfl, (F.out.setCell (by simp) _).setCell (by simp) _⟩

set_option maxRecDepth 100000 in
set_option maxHeartbeats 400000 in
theorem refOp (k v : Int) (k0 : 0 ≤ k) (k1 : k ≤ 255) (v0 : -2147483648 ≤ v) (v1 : v ≤ 2147483647) (w : World) :
    Calls Tryz.prog 15 #[.agg #[.int .u8 k, .int .i32 v]] w fun e w' => e = .returned (.int .i64 (wd k v)) ∧ Fresh w w' := by
  go_enter Tryz.func15, Tryz.ntmps15
  go_wp2
  go_ret
  exact ⟨rfl, (Fresh.refl _).alloc _ _⟩

set_option maxRecDepth 100000 in
set_option maxHeartbeats 400000 in
theorem pairRes (k v : Int) (w : World) : Calls Tryz.prog 128 #[.agg #[.int .u8 k, .int .i32 v]] w fun e w' => e = .returned (.tuple #[.int .u8 k, .int .i32 v]) ∧ Fresh w w' := by
  go_enter Tryz.func128, Tryz.ntmps128
  go_wp2
  go_quiet (fail)
  go_wp2
  go_ret2
  exact ⟨rfl, ((Fresh.refl _).alloc _ _).drewN _⟩

set_option maxRecDepth 100000 in
set_option maxHeartbeats 400000 in
theorem packRes (k v : Int) (k0 : 0 ≤ k) (k1 : k ≤ 255) (v0 : -2147483648 ≤ v) (v1 : v ≤ 2147483647) (w : World) :
    Calls Tryz.prog 127 #[.agg #[.int .u8 k, .int .i32 v], .func (.func 128) #[] #[]] w fun e w' => e = .returned (.int .i64 (wd k v)) ∧ Fresh w w' := by
  go_enter Tryz.func127, Tryz.ntmps127
  go_wp2_with fail
  refine (pairRes _ _ _).mono ?_
  rintro e w' ⟨rfl, hf⟩
  have F := ((Fresh.refl w).alloc #[.int .u8 k, .int .i32 v] 74).trans hf
  clear hf
  go_wp2
  go_ret
  exact ⟨rfl, F⟩

set_option maxRecDepth 100000 in
set_option maxHeartbeats 400000 in
theorem wordRes (k v : Int) (k0 : 0 ≤ k) (k1 : k ≤ 255) (v0 : -2147483648 ≤ v) (v1 : v ≤ 2147483647) (w : World) :
    Calls Tryz.prog 118 #[.agg #[.int .u8 k, .int .i32 v]] w fun e w' => e = .returned (.int .i64 (wd k v)) ∧ Fresh w w' := by
  go_enter Tryz.func118, Tryz.ntmps118
  go_wp2_with fail
  refine (packRes _ _ k0 k1 v0 v1 _).mono ?_
  rintro e w' ⟨rfl, hf⟩
  have F := ((Fresh.refl w).alloc #[.int .u8 k, .int .i32 v] 74).trans hf
  clear hf
  go_wp2
  go_ret
  exact ⟨rfl, F⟩

set_option maxRecDepth 100000 in
set_option maxHeartbeats 400000 in
theorem asksAny (n : Int) (w : World) : Calls Tryz.prog 107 #[.int .i64 n] w fun e w' => e = .returned (.bool (decide (0 < n))) ∧ w = w' := by
  go_enter Tryz.func107, Tryz.ntmps107
  go_wp2
  go_ret
  exact ⟨rfl, rfl⟩

end Go.Proofs.YtikaoikladbdpaaGreat.M2
namespace Go.Proofs.YtikaoikladbdpaaGreat.M2
open Go.RowKit

def bs (k : Int) : Int := if k < 0 then 0 else if 1000 < k then 0 else 3 + 5 * k
def mn (n : Nat) : Nat := (n - 3) / 5

theorem bs_in {k : Int} (h0 : 0 ≤ k) (h1 : k ≤ 1000) : bs k = 3 + 5 * k := by unfold bs; rw [if_neg (by omega), if_neg (by omega)]
theorem bs_low {k : Int} (h : k < 0) : bs k = 0 := by unfold bs; rw [if_pos h]
theorem bs_high {k : Int} (h : 1000 < k) : bs k = 0 := by unfold bs; rw [if_neg (by omega), if_pos h]

set_option maxRecDepth 100000 in
theorem baseAny (k : Int) (w : World) : Calls Tryz.prog 104 #[.int .i64 k] w fun e w' => e = .returned (.int .i64 (bs k)) ∧ w = w' := by
  rcases (show k < 0 ∨ 1000 < k ∨ (0 ≤ k ∧ k ≤ 1000) from by omega) with h | h | ⟨h, h'⟩
  · rw [bs_low h]
    go_enter Tryz.func104, Tryz.ntmps104
    go_wp2
    go_ret
    exact ⟨rfl, rfl⟩
  · rw [bs_high h]
    go_enter Tryz.func104, Tryz.ntmps104
    go_wp2
    go_ret
    exact ⟨rfl, rfl⟩
  · rw [bs_in h h']
    go_enter Tryz.func104, Tryz.ntmps104
    go_wp2
    go_ret
    exact ⟨rfl, rfl⟩

section
variable {w : World} {B p : Nat} {size : Int} {zs : List Int} {st : Int}

theorem Mem1.most (h : Mem1 w B p size zs st) : zs.length ≤ 1000 := by
  obtain ⟨v, m⟩ := h
  have := m.room
  have := m.s1
  omega

set_option maxRecDepth 100000 in
theorem many1 (h : Mem1 w B p size zs st) : Calls Tryz.prog 102 #[.pointer (some ⟨p, 0, none⟩)] w fun e w' => e = .returned (.int .i64 (mn zs.length : Nat)) ∧ w = w' := by
  have hl := h.most
  have T := top1 h
  clear h
  generalize zs.length = n at *
  by_cases hn : n < 3
  · have e0 : mn n = 0 := by unfold mn; omega
    rw [e0]
    clear e0
    go_enter Tryz.func102, Tryz.ntmps102
    go_wp2_with fail
    refine T.mono ?_
    clear T
    rintro e w1 ⟨rfl, rfl⟩
    go_wp2
    all_goals (go_ret; first | exact ⟨rfl, rfl⟩ | (exfalso; omega) | exact ⟨by simp; omega, rfl⟩)
  · have e0 : ((mn n : Nat) : Int) = ((n : Int) - 3) / 5 := by unfold mn; omega
    rw [e0]
    clear e0
    go_enter Tryz.func102, Tryz.ntmps102
    go_wp2_with fail
    refine T.mono ?_
    clear T
    rintro e w1 ⟨rfl, rfl⟩
    go_wp2
    all_goals (go_ret; first | exact ⟨rfl, rfl⟩ | (exfalso; omega) | exact ⟨by simp <;> omega, rfl⟩)

end

end Go.Proofs.YtikaoikladbdpaaGreat.M2
namespace Go.Proofs.YtikaoikladbdpaaGreat.M2
open Go.RowKit

section
variable {w w' : World} {N : Nat} {t : TypeId} {a b c d e : Int}
end

section
variable {w : World} {B p : Nat} {size : Int} {zs : List Int} {st : Int}

end

end Go.Proofs.YtikaoikladbdpaaGreat.M2
namespace Go.Proofs.YtikaoikladbdpaaGreat.M2
open Go.RowKit Go.ChangeShapes Go.WideShapes

def Nums (k : IntKind) (w : World) (ao : Option Addr) (len : Nat) (zs : List Int) : Prop :=
  Reads k w ao len zs ∧ len ≤ maxLen ∧ ∀ n ∈ zs, (Lit.int k n).wf = true

theorem reads_own {w : World} {base n : Nat} {ao : Option Addr} {cap : Nat} {zs : List Int} (h : w.ownsRow base 2 1 (.slice ao n cap) n (zs.map (Value.int .i64))) : Reads .i64 w ao n zs := by
  have hl : zs.length = n := by have := h.1; simpa using this
  refine ⟨hl, fun hp => ?_⟩
  rcases h.2 with ⟨h', e⟩ | ⟨g, cap', cur, h', _, hg, _⟩
  · omega
  · simp only [Value.slice.injEq] at h'
    obtain ⟨rfl, _, rfl⟩ := h'
    refine ⟨g, 0, rfl, lt_of_block hg, fun i hi => ?_⟩
    rw [Nat.zero_add, h.cellAt i (by omega)]
    simp [List.getD, hl, hi]

theorem openBytes {H : Type} {enc : TypeId × Value → H} {W : World} {a : Option Addr} {len cap : Nat} {d : DataW H} {ps : List MemPlace}
    (h : DataW.Trod enc Tryz.prog W 0 (fun _ => true) true 26 (.slice a len cap) d ps) : ∃ zs, Nums .u8 W a len zs := by
  obtain ⟨fuel, hf⟩ := h
  rcases open_ints Tryz.underlying26 Tryz.underlying5 (by kernel_rfl) hf with ⟨hcs, _⟩ | ⟨x, l, c, zs, hcs, _, hl, hm, hz, _, hcell, hwz⟩
  · simp [Value.cells] at hcs
    obtain ⟨rfl, rfl, rfl⟩ := hcs
    exact ⟨[], ⟨rfl, fun h => by omega⟩, by simp [maxLen], by simp⟩
  · simp [Value.cells] at hcs
    obtain ⟨rfl, rfl, rfl⟩ := hcs
    simp only [if_true] at hz
    refine ⟨zs.take len, ⟨by simp; omega, fun hp => ?_⟩, by omega, fun n hn => hwz n (List.mem_of_mem_take hn)⟩
    obtain ⟨b, off, spot⟩ := x
    have hspot : spot = none := by simpa [Addr.add] using World.cell?_spot (hcell 0 (by omega))
    subst hspot
    refine ⟨b, off, rfl, World.block_lt_of_cell? W _ (hcell 0 (by omega)), fun i hi => ?_⟩
    have := hcell i (by omega)
    rw [Addr.add_lit] at this
    rw [this]
    simp [List.getD, hi]

end Go.Proofs.YtikaoikladbdpaaGreat.M2
namespace Go.Proofs.YtikaoikladbdpaaGreat.M2
open Go.RowKit

def Boxed (w : World) (N : Nat) (a b c : Value) : Prop := w.heap[N]? = some (.cells #[a, b, c] 41 (0, 0))

section
variable {w w' : World} {N : Nat} {a b c : Value}
theorem Boxed.c0 (h : Boxed w N a b c) : w.cell? ⟨N, 0, none⟩ = some a := by unfold Boxed at h; simp [World.cell?, h]
theorem Boxed.c1 (h : Boxed w N a b c) : w.cell? ⟨N, 1, none⟩ = some b := by unfold Boxed at h; simp [World.cell?, h]
theorem Boxed.c2 (h : Boxed w N a b c) : w.cell? ⟨N, 2, none⟩ = some c := by unfold Boxed at h; simp [World.cell?, h]
theorem Boxed.f (h : Boxed w N a b c) (o : Nat) : w.frozen? ⟨N, o, none⟩ = false := by unfold Boxed at h; simp [World.frozen?, h]
theorem Boxed.lt (h : Boxed w N a b c) : N < w.heap.size := lt_of_block h
theorem Boxed.keep (h : Boxed w N a b c) (hb : Below w.heap.size w w') : Boxed w' N a b c := (hb.block N h.lt).trans h
theorem Boxed.grown (h : Boxed w N a b c) {row : Option Nat} (hg : w.grownBy w' row) (hr : row ≠ some N) : Boxed w' N a b c := (hg.block N h.lt (fun e => hr e.symm)).trans h
theorem Boxed.new (w : World) (a b c : Value) : Boxed (w.alloc (.cells #[a, b, c] 41)) w.heap.size a b c := heap_alloc_new w _
theorem Boxed.alloc (h : Boxed w N a b c) (o : Obj) : Boxed (w.alloc o) N a b c := (Below.heap_alloc _ _ _ h.lt).trans h
theorem Boxed.other (h : Boxed w N a b c) {q : Addr} (hq : q.block ≠ N) (x : Value) : Boxed (w.setCell q x) N a b c := (Below.heap_setCell _ _ _ _ (fun e => hq e.symm)).trans h
theorem Boxed.set0 (h : Boxed w N a b c) (x : Value) : Boxed (w.setCell ⟨N, 0, none⟩ x) N x b c := by unfold Boxed; rw [heap_setCell_same w N 0 _ _ _ h]; rfl
theorem Boxed.set1 (h : Boxed w N a b c) (x : Value) : Boxed (w.setCell ⟨N, 1, none⟩ x) N a x c := by unfold Boxed; rw [heap_setCell_same w N 1 _ _ _ h]; rfl
theorem Boxed.set2 (h : Boxed w N a b c) (x : Value) : Boxed (w.setCell ⟨N, 2, none⟩ x) N a b x := by unfold Boxed; rw [heap_setCell_same w N 2 _ _ _ h]; rfl
end

theorem own_ne_boxed {w : World} {base N n : Nat} {a b c u : Value} {xs : List Value} (h : w.ownsRow base 2 1 u n xs) (hb : Boxed w N a b c) : u.ownBlock ≠ some N := by
  intro e
  rcases h.2 with ⟨rfl, _⟩ | ⟨g, cap, cur, rfl, _, hg, _⟩
  · simp [Value.ownBlock] at e
  · simp only [Value.ownBlock, Option.some.injEq] at e
    subst e
    unfold Boxed at hb
    rw [hg] at hb
    simp at hb

theorem own_keep {w w' : World} {base n : Nat} {u : Value} {xs : List Value} (h : w.ownsRow base 2 1 u n xs) (hb : Below w.heap.size w w') : w'.ownsRow base 2 1 u n xs := by
  refine ⟨h.1, ?_⟩
  rcases h.2 with hn | ⟨g, cap, cur, rfl, hl, hg, r⟩
  · exact .inl hn
  · exact .inr ⟨g, cap, cur, rfl, hl, (hb.block g (lt_of_block hg)).trans hg, r⟩

section
variable {w : World} {B : Nat} {u : Value} {size : Int} {zs : List Int} {st : Int}

theorem hasIn (ao : Option Addr) (n cap : Nat) (size st a : Int) (w : World) (h0 : 0 ≤ a) (h1 : a < n) :
    Calls Tryz.prog 65 #[.agg #[.int .i64 size, .slice ao n cap, .int .i64 st], .int .i64 a] w fun e w' => e = .returned (.bool true) ∧ Below w.heap.size w w' := by
  go_enter Tryz.func65, Tryz.ntmps65
  go_wp2
  go_ret
  exact ⟨by simp, (Below.refl _ _).alloc (Nat.le_refl _) _⟩

theorem freshAny (size st : Int) (h : w.ownsRow B 2 1 u zs.length (zs.map (Value.int .i64))) (hl : zs.length ≤ 1000) :
    Calls Tryz.prog 62 #[.agg #[.int .i64 size, u, .int .i64 st]] w fun e w' => ∃ u', e = .returned (.agg #[.int .i64 size, u', .int .i64 st]) ∧ w'.ownsRow w.heap.size 2 1 u' zs.length (zs.map (Value.int .i64)) ∧ Below w.heap.size w w' := by
  obtain ⟨i0, hi, hz0, hz1, hz2⟩ := info_parts infoInt64
  rcases h.2 with ⟨rfl, e⟩ | ⟨g, cap, cur, rfl, hb, hg, _⟩
  · obtain rfl : zs = [] := List.eq_nil_of_length_eq_zero e
    have HI := Lib.hid hi
    clear hi hz0 hz1 hz2 h e
    go_enter Tryz.func62, Tryz.ntmps62
    go_upto_region 2 with (fail)
    generalize hW : (w.alloc (.cells #[.int .i64 size, .slice none 0 0, .int .i64 st] 41)).alloc (.cells #[.int .i64 0, .slice none 0 0, .int .i64 0] 41) = W
    have X0 : Boxed W w.heap.size (.int .i64 size) (.slice none 0 0) (.int .i64 st) := by subst hW; exact (Boxed.new _ _ _ _).alloc _
    have X1 : Boxed W (w.heap.size + 1) (.int .i64 0) (.slice none 0 0) (.int .i64 0) := by subst hW; have := Boxed.new (w.alloc (.cells #[.int .i64 size, .slice none 0 0, .int .i64 st] 41)) (.int .i64 0) (.slice none 0 0) (.int .i64 0); simpa using this
    have hb0 : Below w.heap.size w W := by subst hW; exact ((Below.refl _ _).alloc (Nat.le_refl _) _).alloc (by simp) _
    clear hW
    have HB0 := Lib.hid hb0
    have HX0 := Lib.hid X0
    have HX1 := Lib.hid X1
    have d0 := X0.c0
    have d1 := X0.c1
    have d2 := X0.c2
    have df := X0.f
    have e0 := X1.c0
    have e1 := X1.c1
    have e2 := X1.c2
    have ef := X1.f
    clear hb0 X0 X1
    go_wp2_with (at_builtin; refine wpList_append_own_none rfl (.tmp 4) (.tmp 6) 22 rfl w.heap.size 2 i0 1 Tryz.underlying22 HI.out (.slice none 0 0) 0 [] rfl (World.ownsRow_nil _ _ _ _) rfl ?_)
    have Z := (((HX1.out.other (q := ⟨w.heap.size, 1, none⟩) (by simp) (.slice none 0 0)).set0 (.int .i64 size)).set1 (.slice none 0 0)).set2 (.int .i64 st)
    refine bodyPost_ret (v := .agg #[.int .i64 size, .slice none 0 0, .int .i64 st]) (by simp [results, Tryz.results62, go_sem, Z.c0, Z.c1, Z.c2]) rfl ⟨_, rfl, World.ownsRow_nil _ _ _ _, ?_⟩
    exact (((HB0.out.setCell (Nat.le_refl _) _).setCell (by simp) _).setCell (by simp) _).setCell (by simp) _
  · have HI := Lib.hid hi
    have H0 := Lib.hid hz0
    have H1 := Lib.hid hz1
    have H2 := Lib.hid hz2
    clear hi hz0 hz1 hz2
    have HC := Lib.hid (h.cells (g := g) rfl)
    have hgl := lt_of_block hg
    have HL := Lib.hid h
    clear h hg
    go_enter Tryz.func62, Tryz.ntmps62
    go_upto_region 2 with (fail)
    generalize hW : (w.alloc (.cells #[.int .i64 size, .slice (some ⟨g, 0, none⟩) zs.length cap, .int .i64 st] 41)).alloc (.cells #[.int .i64 0, .slice none 0 0, .int .i64 0] 41) = W
    have X0 : Boxed W w.heap.size (.int .i64 size) (.slice (some ⟨g, 0, none⟩) zs.length cap) (.int .i64 st) := by subst hW; exact (Boxed.new _ _ _ _).alloc _
    have X1 : Boxed W (w.heap.size + 1) (.int .i64 0) (.slice none 0 0) (.int .i64 0) := by subst hW; have := Boxed.new (w.alloc (.cells #[.int .i64 size, .slice (some ⟨g, 0, none⟩) zs.length cap, .int .i64 st] 41)) (.int .i64 0) (.slice none 0 0) (.int .i64 0); simpa using this
    have hb0 : Below w.heap.size w W := by subst hW; exact ((Below.refl _ _).alloc (Nat.le_refl _) _).alloc (by simp) _
    clear hW
    have HC2 := Lib.hid (fun j u hu => (hb0.cell (p := (⟨g, 0, none⟩ : Addr).add j) (by simpa [Addr.add_lit] using hgl)).trans (HC.out j u hu))
    have HB0 := Lib.hid hb0
    have HX0 := Lib.hid X0
    have HX1 := Lib.hid X1
    have c1 := X0.c1
    clear hb0 X0 X1
    have hsz := HB0.out.size
    go_wp2_with (at_builtin; refine wpList_append_own _ rfl (.tmp 4) (.tmp 6) 22 rfl w.heap.size 2 i0 (.int .i64 0) 1 8 Tryz.underlying22 HI.out H0.out H1.out H2.out rfl (by decide) (.slice none 0 0) 0 [] rfl (World.ownsRow_nil _ _ _ _) ⟨g, 0, none⟩ zs.length cap (zs.map (Value.int .i64)) rfl (by simp) HC2.out (ints_oneCell _ _) (by unfold maxLen; omega) (by omega) hsz ?_; intro u1 w1 ho hg hn; obtain ⟨ao', cap', rfl⟩ := ownShape ho; have Y0 := HX0.out.grown hg (by simp [Value.ownBlock]); have Y1 := HX1.out.grown hg (by simp [Value.ownBlock]); have d0 := Y0.c0; have d1 := Y0.c1; have d2 := Y0.c2; have df := Y0.f; have e0 := Y1.c0; have e1 := Y1.c1; have e2 := Y1.c2; have ef := Y1.f; have HO := Lib.hid ho; have HG := Lib.hid hg; clear ho hg hn; have HY0 := Lib.hid Y0; have HY1 := Lib.hid Y1; clear Y0 Y1)
    have Z := (((HY1.out.other (q := ⟨w.heap.size, 1, none⟩) (by simp) (.slice ao' zs.length cap')).set0 (.int .i64 size)).set1 (.slice ao' zs.length cap')).set2 (.int .i64 st)
    have ho := HO.out
    simp only [Nat.zero_add, List.nil_append] at ho
    have n0 := own_ne_boxed ho HY0.out
    have n1 := own_ne_boxed ho HY1.out
    refine bodyPost_ret (v := .agg #[.int .i64 size, .slice ao' zs.length cap', .int .i64 st]) (by simp [results, Tryz.results62, go_sem, Z.c0, Z.c1, Z.c2]) rfl ⟨_, rfl, ?_, ?_⟩
    · exact ownsRow_setCell_other (ownsRow_setCell_other (ownsRow_setCell_other (ownsRow_setCell_other ho n0 _) n1 _) n1 _) n1 _
    · exact ((((HB0.out.grown HG.out HB0.out.size (by simp [Value.ownBlock])).setCell (Nat.le_refl _) _).setCell (by simp) _).setCell (by simp) _).setCell (by simp) _
end

end Go.Proofs.YtikaoikladbdpaaGreat.M2
namespace Go.Proofs.YtikaoikladbdpaaGreat.M2
open Go.RowKit

theorem own_le {w : World} {base base' n : Nat} {u : Value} {xs : List Value} (h : w.ownsRow base 2 1 u n xs) (hb : base' ≤ base) : w.ownsRow base' 2 1 u n xs := by
  refine ⟨h.1, ?_⟩
  rcases h.2 with hn | ⟨g, cap, cur, rfl, hl, r⟩
  · exact .inl hn
  · exact .inr ⟨g, cap, cur, rfl, Nat.le_trans hb hl, r⟩

theorem own_row {w : World} {base n : Nat} {u : Value} {xs : List Value} (h : w.ownsRow base 2 1 u n xs) (hn : 0 < n) : ∃ g cap, u = .slice (some ⟨g, 0, none⟩) n cap ∧ g < w.heap.size := by
  rcases h.2 with ⟨_, e⟩ | ⟨g, cap, cur, rfl, _, hg, _⟩
  · omega
  · exact ⟨g, cap, rfl, lt_of_block hg⟩

theorem own_cell {w : World} {base g cap : Nat} {zs : List Int} (h : w.ownsRow base 2 1 (.slice (some ⟨g, 0, none⟩) zs.length cap) zs.length (zs.map (Value.int .i64))) {a : Int} (h0 : 0 ≤ a) (h1 : a < zs.length) :
    w.cell? ⟨g, a.toNat, none⟩ = some (.int .i64 (zs.getD a.toNat 0)) ∧ w.frozen? ⟨g, a.toNat, none⟩ = false := by
  have hl : a.toNat < zs.length := by omega
  refine ⟨?_, h.frozenAt _⟩
  rw [h.cellAt a.toNat (by omega)]
  simp [List.getD, hl]

def Left (w : World) (B : Nat) (u : Value) (zs : List Int) (u' : Value) (w' : World) : Prop :=
  w'.ownsRow B 2 1 u' zs.length (zs.map (Value.int .i64)) ∧ Later u u' w ∧ Below w.heap.size w w'

theorem begun (w : World) (a b c : Value) : ∀ W, (w.alloc (.cells #[a, b, c] 41)).alloc (.cells #[.int .i64 0, .slice none 0 0, .int .i64 0] 41) = W →
    Boxed W w.heap.size a b c ∧ Boxed W (w.heap.size + 1) (.int .i64 0) (.slice none 0 0) (.int .i64 0) ∧ Below w.heap.size w W := by
  rintro W rfl
  refine ⟨(Boxed.new _ _ _ _).alloc _, ?_, ((Below.refl _ _).alloc (Nat.le_refl _) _).alloc (by simp) _⟩
  have := Boxed.new (w.alloc (.cells #[a, b, c] 41)) (.int .i64 0) (.slice none 0 0) (.int .i64 0)
  simpa using this

theorem refNew (n : Int) (w : World) :
    Calls Tryz.prog 41 #[.int .i64 n] w fun e w' => e = .returned (.agg #[.int .i64 (sizeOf' n), .slice none 0 0, .int .i64 0]) ∧ Below w.heap.size w w' := by
  rcases (show n < 0 ∨ n = 0 ∨ n = 1000 ∨ 1000 < n ∨ (0 < n ∧ n < 1000) from by omega) with h | rfl | rfl | h | ⟨h, h'⟩
  · have e0 : sizeOf' n = 0 := by unfold sizeOf'; (repeat' split) <;> omega
    rw [e0]
    clear e0
    go_enter Tryz.func41, Tryz.ntmps41
    go_wp2
    exact bodyPost_ret (v := .agg #[.int .i64 0, .slice none 0 0, .int .i64 0]) (by simp [results, Tryz.results41, go_sem]) rfl ⟨rfl, (Below.refl _ _).alloc (Nat.le_refl _) _⟩
  · have e0 : sizeOf' 0 = 0 := by unfold sizeOf'; (repeat' split) <;> omega
    rw [e0]
    clear e0
    go_enter Tryz.func41, Tryz.ntmps41
    go_wp2
    exact bodyPost_ret (v := .agg #[.int .i64 0, .slice none 0 0, .int .i64 0]) (by simp [results, Tryz.results41, go_sem]) rfl ⟨rfl, (Below.refl _ _).alloc (Nat.le_refl _) _⟩
  · have e0 : sizeOf' 1000 = 1000 := by unfold sizeOf'; (repeat' split) <;> omega
    rw [e0]
    clear e0
    go_enter Tryz.func41, Tryz.ntmps41
    go_wp2
    exact bodyPost_ret (v := .agg #[.int .i64 1000, .slice none 0 0, .int .i64 0]) (by simp [results, Tryz.results41, go_sem]) rfl ⟨rfl, (Below.refl _ _).alloc (Nat.le_refl _) _⟩
  · have e0 : sizeOf' n = 1000 := by unfold sizeOf'; (repeat' split) <;> omega
    rw [e0]
    clear e0
    go_enter Tryz.func41, Tryz.ntmps41
    go_wp2
    exact bodyPost_ret (v := .agg #[.int .i64 1000, .slice none 0 0, .int .i64 0]) (by simp [results, Tryz.results41, go_sem]) rfl ⟨rfl, (Below.refl _ _).alloc (Nat.le_refl _) _⟩
  · have e0 : sizeOf' n = n := by unfold sizeOf'; (repeat' split) <;> omega
    rw [e0]
    clear e0
    go_enter Tryz.func41, Tryz.ntmps41
    go_wp2
    exact bodyPost_ret (v := .agg #[.int .i64 n, .slice none 0 0, .int .i64 0]) (by simp [results, Tryz.results41, go_sem]) rfl ⟨rfl, (Below.refl _ _).alloc (Nat.le_refl _) _⟩

section
variable {w : World} {B : Nat} {u : Value} {size : Int} {zs : List Int} {st : Int}

set_option maxRecDepth 100000 in
set_option maxHeartbeats 1600000 in
theorem refAllocOk (h : w.ownsRow B 2 1 u zs.length (zs.map (Value.int .i64))) (hB : B ≤ w.heap.size) (m : Nat) (s1 : size ≤ 1000) (s2 : (zs.length : Int) ≤ size) (hm : (m : Int) ≤ size - zs.length) (k0 : 0 ≤ st) (k1 : st < 1000000) :
    Calls Tryz.prog 42 #[.agg #[.int .i64 size, u, .int .i64 st], .int .i64 (m : Int)] w fun e w' => ∃ u', e = .returned (.tuple #[.agg #[.int .i64 size, u', .int .i64 (st + 1)], .int .i64 (zs.length : Int), .int .i64 0]) ∧ Left w B u (zs ++ List.replicate m 0) u' w' := by
  obtain ⟨ao, cap, rfl⟩ := ownShape h
  obtain ⟨i0, hi, hz0, hz1, hz2⟩ := info_parts infoInt64
  have HI := Lib.hid hi
  have H0 := Lib.hid hz0
  have H1 := Lib.hid hz1
  have H2 := Lib.hid hz2
  clear hi hz0 hz1 hz2
  go_enter Tryz.func42, Tryz.ntmps42
  go_wp2_with fail
  generalize hW : (w.alloc (.cells #[.int .i64 size, .slice ao zs.length cap, .int .i64 st] 41)).alloc (.cells #[.int .i64 0, .slice none 0 0, .int .i64 0] 41) = W
  obtain ⟨X0, X1, hb0⟩ := begun w _ _ _ W hW
  clear hW
  refine (freshAny size st (own_keep h hb0) (by omega)).mono ?_
  rintro e w1 ⟨u1, rfl, ho1, b1⟩
  obtain ⟨ao1, cap1, rfl⟩ := ownShape ho1
  have HX1 := Lib.hid (X1.keep b1)
  have HB1 := Lib.hid (hb0.trans (b1.mono hb0.size))
  have HO1 := Lib.hid ho1
  have hN := Nat.lt_of_lt_of_le X1.lt b1.size
  have hN1 : ¬ w1.heap.size = w.heap.size + 1 := by omega
  have hN2 : ¬ w.heap.size + 1 = w1.heap.size := by omega
  have HZ0 := Lib.hid hb0.size
  have HZ1 := Lib.hid b1.size
  clear X0 X1 b1 ho1 hb0 h
  go_upto_region 7 with (fail)
  generalize hW2 : w1.alloc (.cells #[.int .i64 size, .slice ao1 zs.length cap1, .int .i64 st] 41) = W2
  have HX2 := Lib.hid (show Boxed W2 w1.heap.size (.int .i64 size) (.slice ao1 zs.length cap1) (.int .i64 st) by subst hW2; exact Boxed.new _ _ _ _)
  have HX1' := Lib.hid (show Boxed W2 (w.heap.size + 1) (.int .i64 0) (.slice none 0 0) (.int .i64 0) by subst hW2; exact HX1.out.alloc _)
  have HB2 := Lib.hid (show Below w.heap.size w W2 by subst hW2; exact HB1.out.alloc HB1.out.size _)
  have HO2 := Lib.hid (show W2.ownsRow W.heap.size 2 1 (.slice ao1 zs.length cap1) zs.length (zs.map (Value.int .i64)) by subst hW2; exact HO1.out.alloc _)
  have HZ2 := Lib.hid (show W.heap.size ≤ W2.heap.size by subst hW2; have := HZ1.out; simp; omega)
  clear hW2 HX1 HO1
  have c1 := HX2.out.c1
  go_wp2_with (at_builtin; refine wpList_append_zeros rfl (.tmp 27) (.tmp 28) 22 3 rfl W.heap.size 2 .i64 i0 (.int .i64 0) Tryz.underlying22 Tryz.underlying3 HI.out H0.out H1.out H2.out rfl rfl (.slice ao1 zs.length cap1) zs.length _ rfl HO2.out m rfl (by omega) (by omega) HZ2.out ?_; intro v3 w3 ho hg hl; obtain ⟨ao3, cap3, rfl⟩ := ownShape ho; have Y2 := HX2.out.grown hg (own_ne_boxed HO2.out HX2.out); have Y1 := HX1'.out.grown hg (own_ne_boxed HO2.out HX1'.out); have d0 := Y2.c0; have d1 := Y2.c1; have d2 := Y2.c2; have df := Y2.f; have e0 := Y1.c0; have e1 := Y1.c1; have e2 := Y1.c2; have ef := Y1.f; have HO := Lib.hid ho; have HG := Lib.hid hg; have HY2 := Lib.hid Y2; have HY1 := Lib.hid Y1; clear ho hg hl Y2 Y1)
  have Z := ((((HY1.out.other (q := ⟨w1.heap.size, 1, none⟩) (by simp; omega) (.slice ao3 (zs.length + m) cap3)).other (q := ⟨w1.heap.size, 2, none⟩) (by simp; omega) (.int .i64 (st + 1))).set0 (.int .i64 size)).set1 (.slice ao3 (zs.length + m) cap3)).set2 (.int .i64 (st + 1))
  have n2 := own_ne_boxed HO.out HY2.out
  have n1 := own_ne_boxed HO.out HY1.out
  refine bodyPost_ret (v := .tuple #[.agg #[.int .i64 size, .slice ao3 (zs.length + m) cap3, .int .i64 (st + 1)], .int .i64 (zs.length : Int), .int .i64 0]) (by simp [results, Tryz.results42, go_sem, Z.c0, Z.c1, Z.c2]) rfl ⟨_, rfl, ?_, ?_, ?_⟩
  · have := ownsRow_setCell_other (a := ⟨w.heap.size + 1, 2, none⟩) (ownsRow_setCell_other (a := ⟨w.heap.size + 1, 1, none⟩) (ownsRow_setCell_other (a := ⟨w.heap.size + 1, 0, none⟩) (ownsRow_setCell_other (a := ⟨w1.heap.size, 2, none⟩) (ownsRow_setCell_other (a := ⟨w1.heap.size, 1, none⟩) HO.out n2 (.slice ao3 (zs.length + m) cap3)) n2 (.int .i64 (st + 1))) n1 (.int .i64 size)) n1 (.slice ao3 (zs.length + m) cap3)) n1 (.int .i64 (st + 1))
    have := own_le this (Nat.le_trans hB HZ0.out)
    simpa using this
  · exact fun g hg => .inr (Nat.le_trans HZ0.out (HO.out.lt g hg).1)
  · exact (((((HB2.out.grown HG.out HB2.out.size (fun g hg => Nat.le_trans HZ0.out (HO2.out.lt g hg).1)).setCell (by simp; omega) _).setCell (by simp; omega) _).setCell (by simp) _).setCell (by simp) _).setCell (by simp) _

end

end Go.Proofs.YtikaoikladbdpaaGreat.M2
