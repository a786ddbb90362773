/-
  What Items, Len, Level and Feed of package object tell, and leave, at every object and at nil. Conditions: an object as Ob says. Objects in a walk: what is known of one, or of two that know nothing of one another, between the calls; lists beside them; the example that every statement asks ('known'). Conditions: objects as Ob says. What came in: an operation and a result by value; lists of bytes, of int64 and of whatever elements of as many cells each; each read as what its cells hold. Conditions: none. What 'append(s, make([]T, m)...)' does where s is a row of the call's own: as many noughts more, in the row or in a new one. Conditions: elements of one cell and eight bytes; at most a million elements of either. No Go function is looked at here. What a memory of package cells is in the model's world, what its calls may touch, and the plain functions that say what they answer. Conditions: none; no Go function is looked at here. What New, Top, Steps, room, cell and count of package cells do, and the deferred functions that count: each for every memory, and for nil. Conditions: a memory as Mem says; steps below a million.
-/
import Derived.Test.YtikaoikladbdpaaGreatQObDo12m
import Derived.Test.YtikaoikladbdpaaGreatG0816
import Derived.Test.YtikaoikladbdpaaGreatG0116
import Derived.Stop.Asserts
import Derived.ChangeSlices
import Derived.OpenShut
import Derived.Deep.Slices
import Derived.Deep.Fields
import Derived.SizedLaws
import Derived.Lib.SmallJoins
import Derived.WalkKit
import Derived.ProofKit
import Derived.Below
import Derived.RowKit3
import Derived.WalkSmall
import Derived.OneCell
import Derived.OwnWalk
import Derived.Laws.CopyOwn
import Derived.Laws.AppendOwnNone
import Derived.Deep.RegionLaw
import Derived.Deep.QuietTactic
import Derived.BigQuiet
import Derived.Defers
import Derived.Lib.Hide
namespace Go.Proofs.YtikaoikladbdpaaGreat
open Go.RowKit Go.Lib

section
variable {w w' : World} {F : Nat → Prop} {o : Nat} {k m : Int} {pl : Bool} {s : List It × List Bool} {zs : List Int} {e : Ending}
theorem K9.Told.reads (h : K9.Told w zs e w') : ToldR w zs e w' := ToldL.reads ⟨_, h.1, h.2.1, h.2.2⟩
theorem D10.Told.reads (h : D10.Told w zs e w') : ToldR w zs e w' := ToldL.reads ⟨_, h.1, h.2.1, h.2.2⟩
theorem ToldR.told (h : ToldR w zs e w') : ∃ a n c, e = .returned (.slice a n c) := by obtain ⟨a, c, h, _⟩ := h; exact ⟨_, _, _, h⟩
end

theorem meth1items (p : Nat) (w : World) : (method 404 135 (.agg #[.pointer (some ⟨p, 0, none⟩)]) "Items").run Tryz.prog w = .ok (153, .pointer (some ⟨p, 0, none⟩)) w := by kernel_rfl
set_option maxRecDepth 100000 in
set_option maxHeartbeats 4000000 in
theorem items1 {w : World} {o p q : Nat} {pl : Bool} {zs : List Int} (x : OBlk w o (holdV (tyOf 1) p) q pl) (C : Calls Tryz.prog 153 #[.pointer (some ⟨p, 0, none⟩)] w (ToldR w zs)) :
    Calls Tryz.prog 25 #[.pointer (some ⟨o, 0, none⟩)] w (ToldR w zs) := by
  have c0 : w.cell? ⟨o, 0, none⟩ = some (.iface 135 (.agg #[.pointer (some ⟨p, 0, none⟩)])) := x.c0
  have hm := meth1items p
  clear x
  go_enter Tryz.func25, Tryz.ntmps25
  go_wp2_with fail
  refine C.mono ?_
  rintro e w1 hp
  have HP := Lib.hid hp
  obtain ⟨a, n, c, rfl⟩ := hp.told
  clear hp c0 hm
  go_wp2
  go_ret
  exact HP.out
theorem meth2items (p : Nat) (w : World) : (method 404 139 (.agg #[.pointer (some ⟨p, 0, none⟩)]) "Items").run Tryz.prog w = .ok (176, .pointer (some ⟨p, 0, none⟩)) w := by kernel_rfl
set_option maxRecDepth 100000 in
set_option maxHeartbeats 4000000 in
theorem items2 {w : World} {o p q : Nat} {pl : Bool} {zs : List Int} (x : OBlk w o (holdV (tyOf 2) p) q pl) (C : Calls Tryz.prog 176 #[.pointer (some ⟨p, 0, none⟩)] w (ToldR w zs)) :
    Calls Tryz.prog 25 #[.pointer (some ⟨o, 0, none⟩)] w (ToldR w zs) := by
  have c0 : w.cell? ⟨o, 0, none⟩ = some (.iface 139 (.agg #[.pointer (some ⟨p, 0, none⟩)])) := x.c0
  have hm := meth2items p
  clear x
  go_enter Tryz.func25, Tryz.ntmps25
  go_wp2_with fail
  refine C.mono ?_
  rintro e w1 hp
  have HP := Lib.hid hp
  obtain ⟨a, n, c, rfl⟩ := hp.told
  clear hp c0 hm
  go_wp2
  go_ret
  exact HP.out
theorem meth3items (p : Nat) (w : World) : (method 404 143 (.agg #[.pointer (some ⟨p, 0, none⟩)]) "Items").run Tryz.prog w = .ok (205, .pointer (some ⟨p, 0, none⟩)) w := by kernel_rfl
set_option maxRecDepth 100000 in
set_option maxHeartbeats 4000000 in
theorem items3 {w : World} {o p q : Nat} {pl : Bool} {zs : List Int} (x : OBlk w o (holdV (tyOf 3) p) q pl) (C : Calls Tryz.prog 205 #[.pointer (some ⟨p, 0, none⟩)] w (ToldR w zs)) :
    Calls Tryz.prog 25 #[.pointer (some ⟨o, 0, none⟩)] w (ToldR w zs) := by
  have c0 : w.cell? ⟨o, 0, none⟩ = some (.iface 143 (.agg #[.pointer (some ⟨p, 0, none⟩)])) := x.c0
  have hm := meth3items p
  clear x
  go_enter Tryz.func25, Tryz.ntmps25
  go_wp2_with fail
  refine C.mono ?_
  rintro e w1 hp
  have HP := Lib.hid hp
  obtain ⟨a, n, c, rfl⟩ := hp.told
  clear hp c0 hm
  go_wp2
  go_ret
  exact HP.out
section
variable {w : World} {F : Nat → Prop} {o : Nat} {k m : Int} {pl : Bool} {s : List It × List Bool}
theorem obItems (h : Ob w F o k m pl s) : Calls Tryz.prog 25 #[.pointer (some ⟨o, 0, none⟩)] w (ToldR w (vals s.1)) := by
  obtain ⟨H, G, p, q, x, hh, _⟩ := h
  rcases hh with ⟨rfl, st⟩ | ⟨rfl, st⟩ | ⟨rfl, st⟩
  · exact items1 x ((K9.itemsAny st).mono fun _ _ h => K9.Told.reads h)
  · exact items2 x ((D10.itemsAny st).mono fun _ _ h => D10.Told.reads h)
  · exact items3 x (itemsR st.2)
end

end Go.Proofs.YtikaoikladbdpaaGreat
namespace Go.Proofs.YtikaoikladbdpaaGreat
open Go.RowKit Go.Lib

def OAt (w : World) (F : Nat → Prop) (o : Nat) (k m : Int) (pl : Bool) (s : List It × List Bool) (a : World) : Prop := Ob a F o k m pl s ∧ Below w.heap.size w a ∧ ∀ g, F g → w.heap.size ≤ g
section
variable {w a b : World} {F F' G : Nat → Prop} {o q n : Nat} {k m k2 m2 : Int} {pl pl2 : Bool} {s s' t : List It × List Bool} {os : List (Int × Int)} {e : Ending} {ao : Option Addr} {kd : IntKind} {zs : List Int}
structure Two (w : World) (F G : Nat → Prop) (o q : Nat) (k m k2 m2 : Int) (pl pl2 : Bool) (s t : List It × List Bool) (a : World) : Prop where
  c : OAt w F o k m pl s a
  d : OAt w G q k2 m2 pl2 t a
  ap : Apart F G
end

end Go.Proofs.YtikaoikladbdpaaGreat
namespace Go.Proofs.YtikaoikladbdpaaGreat
open Go.RowKit Go.ChangeShapes Go.WideShapes Go.Deep Go.Joins

def ArgInt64s (w : World) (ao : Option Addr) (len cap : Nat) (zs : List Int) : Prop := Reads .i64 w ao len zs ∧ len ≤ cap ∧ len ≤ maxLen

theorem openInt64s {H : Type} {enc : TypeId × Value → H} {W : World} {a : Option Addr} {len cap : Nat} {d : DataW H} {ps : List MemPlace}
    (h : DataW.Trod enc Tryz.prog W 0 (fun _ => true) true 22 (.slice a len cap) d ps) : ∃ zs, ArgInt64s W a len cap zs := by
  obtain ⟨zs, h1, h2, h3, _⟩ := openNums Tryz.underlying22 Tryz.underlying2 (by kernel_rfl) h
  exact ⟨zs, h1, h2, h3⟩

theorem bytes_i64 : Tryz.prog.bytesOf 2 = 8 := by kernel_rfl

set_option maxRecDepth 100000 in
theorem openOp {r : Reach} {b0 : Nat} {H : Type} {enc : TypeId × Value → H} {W : World} {v : Value} {d : DataW H} {ps : List MemPlace} (hv : Value.okWide Tryz.prog W r b0 38 v)
    (h : DataW.Trod enc Tryz.prog W 0 (fun _ => true) true 38 v d ps) : ∃ k x : Int, v = .agg #[.int .u8 k, .int .i32 x] ∧ OpOk (k, x) := by
  obtain ⟨v0, v1, y0, y1, n, rfl, _, _, g0, g1⟩ := open_agg2 Tryz.underlying38 (by kernel_rfl) (by kernel_rfl) hv h
  obtain ⟨m0, e0, _, w0⟩ := DataW.trod_int Tryz.underlying5 g0
  obtain ⟨m1, e1, _, w1⟩ := DataW.trod_int Tryz.underlying21 g1
  simp only [List.cons.injEq, and_true] at e0 e1
  subst e0 e1
  exact ⟨m0, m1, rfl, bounds_u8 w0, bounds_i32 w1⟩

set_option maxRecDepth 100000 in
theorem openRes {r : Reach} {b0 : Nat} {H : Type} {enc : TypeId × Value → H} {W : World} {v : Value} {d : DataW H} {ps : List MemPlace} (hv : Value.okWide Tryz.prog W r b0 74 v)
    (h : DataW.Trod enc Tryz.prog W 0 (fun _ => true) true 74 v d ps) : ∃ k x : Int, v = .agg #[.int .u8 k, .int .i32 x] ∧ OpOk (k, x) := by
  obtain ⟨v0, v1, y0, y1, n, rfl, _, _, g0, g1⟩ := open_agg2 Tryz.underlying74 (by kernel_rfl) (by kernel_rfl) hv h
  obtain ⟨m0, e0, _, w0⟩ := DataW.trod_int Tryz.underlying5 g0
  obtain ⟨m1, e1, _, w1⟩ := DataW.trod_int Tryz.underlying21 g1
  simp only [List.cons.injEq, and_true] at e0 e1
  subst e0 e1
  exact ⟨m0, m1, rfl, bounds_u8 w0, bounds_i32 w1⟩

end Go.Proofs.YtikaoikladbdpaaGreat
namespace Go.Proofs.YtikaoikladbdpaaGreat.M2
open Go.RowKit

theorem toList_zeroCells_one (z : Value) (n : Nat) : (Builtin.zeroCells #[z] n).toList = List.replicate n z := by
  apply List.ext_getElem?
  intro j
  by_cases hj : j < n
  · simp [Builtin.zeroCells, hj, Nat.mod_one]
  · simp [Builtin.zeroCells, hj]

theorem zeroCells_one (z : Value) (n : Nat) : Builtin.zeroCells #[z] n = (List.replicate n z).toArray := by
  rw [← toList_zeroCells_one]

theorem run_append_zeros {P : Program} (w : World) (base : Nat) (t ti ty e : TypeId) (k : IntKind) (i : TypeInfo) (z : Value) (ht : P.underlying t = some (.slice e)) (hti : P.underlying ti = some (.int k)) (hi : P.info? e = some i) (hz : i.zero = some z)
    (hsize : i.size = 1) (hby : i.bytes = 8) (hzs : z.cells = #[z]) (hz1 : z.oneCell' = true)
    (v : Value) (n : Nat) (xs : List Value) (hown : w.ownsRow base e 1 v n xs) (m : Nat) (hm : m ≤ 1000000) (hn : n ≤ 1000000) (hbase : base ≤ w.heap.size) :
    ∃ v' w', (Builtin.append_ #[t, ti] ty #[v, .int .i64 (m : Int)]).run P w = .ok v' w' ∧ w'.ownsRow base e 1 v' (n + m) (xs ++ List.replicate m z) ∧ w.grownBy w' v.ownBlock ∧
      (∀ g, v'.ownBlock = some g → v.ownBlock = some g ∨ w.heap.size ≤ g) := by
  have hw : IntKind.i64.wrap (m : Int) = m := by rw [IntKind.wrap_i64]; omega
  have hw0 : IntKind.i64.wrap 0 = 0 := by rw [IntKind.wrap_i64]; omega
  have n1 : ¬ (m : Int) < 0 := by omega
  have n2 : ¬ (281474976710656 < (m : Int) * 8) := by omega
  have h63 : n + m ≤ maxLen := by simp only [maxLen]; omega
  have hlen : (xs ++ List.replicate m z).length = (n + m) * 1 := by rw [List.length_append, hown.1, List.length_replicate]; omega
  have grown : ∀ (old : Nat), old < n + m → ∀ (row : Option Nat),
      (w.drew.alloc (.cells (xs.toArray ++ (List.replicate m z).toArray ++ (List.replicate (grownCap w (n + m) old e - (n + m)) z).toArray) e)).ownsRow base e 1
        (.slice (some ⟨w.heap.size, 0, none⟩) (n + m) (grownCap w (n + m) old e)) (n + m) (xs ++ List.replicate m z) ∧
      w.grownBy (w.drew.alloc (.cells (xs.toArray ++ (List.replicate m z).toArray ++ (List.replicate (grownCap w (n + m) old e - (n + m)) z).toArray) e)) row := by
    intro old ho row
    have hge := grownCap_ge w (n + m) old e
    have hcm : grownCap w (n + m) old e ≤ maxLen := grownCap_le_maxLen w (n + m) old e h63
    refine ⟨⟨hlen, .inr ⟨w.heap.size, _, _, rfl, hbase, heap_alloc_new w.drew _, hge, hcm, ?_, ?_⟩⟩, ⟨rfl, rfl, rfl, by simp, fun k hk _ => Below.heap_alloc w.drew _ k hk⟩⟩
    · have := hown.1
      simp only [Array.size_append, List.size_toArray, List.length_replicate]
      omega
    · simp only [Array.toList_append, List.append_assoc]
      rw [← List.append_assoc, ← hlen]
      exact List.take_left
  rcases hown.2 with ⟨rfl, rfl⟩ | ⟨g, cap, cur, rfl, hbg, hg, hnc, hcm, hcs, htake⟩
  · have hx : xs = [] := List.eq_nil_of_length_eq_zero (by simpa using hown.1)
    subst hx
    by_cases hm0 : m = 0
    · subst hm0
      refine ⟨.slice none 0 0, w, ?_, World.ownsRow_nil w base e 1, ⟨rfl, rfl, rfl, Nat.le_refl _, fun _ _ _ => rfl⟩, by simp [Value.ownBlock]⟩
      simp [Builtin.append_, run_underlying ht, run_underlying hti, sizeOf, typeInfo, hi, asInt, asIntOf, hw0, hby]
    · have h48' : ¬ (281474976710656 < Builtin.nextslicecap m 0 * 8) := by rw [nextslicecap_zero (by omega)]; omega
      have h63' : ¬ (9223372036854775807 < (m : Int)) := by omega
      have hgr := grown 0 (by omega) (Value.ownBlock (.slice none 0 0))
      refine ⟨_, _, ?_, hgr.1, hgr.2, by simp [Value.ownBlock]⟩
      simp [Builtin.append_, run_underlying ht, run_underlying hti, sizeOf, typeInfo, zeroValue, hi, hz, asInt, asIntOf, hw, hsize, hby, hm0, n1, n2, h48', h63', Question.forced, run_firstCells_none, newRow, grownCap, hzs, zeroCells_one]
  · by_cases hroom : n + m ≤ cap
    · have hfit : n + (List.replicate m z).length ≤ cur.size := by rw [List.length_replicate, hcs]; omega
      have hst := run_storeCells_at P g n e (List.replicate m z) 0 cur w hg (by simpa using hfit) (by intro u hu; rw [List.eq_of_mem_replicate hu]; exact hz1)
      simp only [Nat.add_zero] at hst
      refine ⟨.slice (some ⟨g, 0, none⟩) (n + m) cap, w.setRow g (cur.toList.take n ++ List.replicate m z ++ cur.toList.drop (n + m)).toArray, ?_, ⟨hlen, .inr ⟨g, cap, _, rfl, hbg, setRow_heap w g cur _ e _ hg, hroom, hcm, ?_, ?_⟩⟩,
        ⟨rfl, rfl, rfl, by simp, fun k _ hk => setRow_other w g k _ (fun e => hk (by simp [Value.ownBlock, e]))⟩, by simp [Value.ownBlock]⟩
      · by_cases hm0 : m = 0
        · subst hm0
          simp at hst
          simp [Builtin.append_, run_underlying ht, run_underlying hti, sizeOf, typeInfo, hi, asInt, asIntOf, hw0, hsize, hby, hnc, Addr.add_lit, hst]
        · simp at hst
          simp [Builtin.append_, run_underlying ht, run_underlying hti, sizeOf, typeInfo, zeroValue, hi, hz, asInt, asIntOf, hw, hsize, hby, hm0, n1, n2, hroom, hzs, zeroCells_one, Addr.add_lit, hst]
      · simp only [List.size_toArray, List.length_append, List.length_take, List.length_drop, Array.length_toList, List.length_replicate]
        omega
      · have e1 : cur.toList.take n = xs := by simpa using htake
        rw [e1, ← hlen]
        exact List.take_left
    · have h48' : ¬ (281474976710656 < Builtin.nextslicecap (n + m) cap * 8) := by have := growslice_fits (old := cap) (need := n + m) (bytes := 8) (by omega) (by omega); omega
      have h63' : ¬ (9223372036854775807 < ((n : Int) + (m : Int))) := by omega
      have holds : ∀ j u, xs[j]? = some u → w.cell? ((⟨g, 0, none⟩ : Addr).add j) = some u := hown.cells (g := g) rfl
      have hfo := run_firstCells_some (P := P) w.drew 1 n ⟨g, 0, none⟩ n cap xs hown.1 (by simpa using holds)
      have hm0 : m ≠ 0 := by omega
      have hgr := grown cap (by omega) (Value.ownBlock (.slice (some ⟨g, 0, none⟩) n cap))
      refine ⟨_, _, ?_, hgr.1, hgr.2, by simp [Value.ownBlock]⟩
      simp [Builtin.append_, run_underlying ht, run_underlying hti, sizeOf, typeInfo, zeroValue, hi, hz, asInt, asIntOf, hw, hsize, hby, hm0, n1, n2, h48', h63', hroom, Question.forced, hfo, newRow, grownCap, hzs, zeroCells_one]

theorem step_append_zeros {P : Program} {ops : Array Oper} {o : Oper} {a : Act} {w : World} {K : Act → World → Prop} {Q : Exit → Act → World → Prop} {E : Prop}
    (hg : o.guard = none) (s x : Operand) (t ti : TypeId) (hop : o.op = Op.call { callee := Callee.builtin Builtin.append, args := #[s, x], argTypes := #[t, ti] })
    (base : Nat) (e : TypeId) (k : IntKind) (i : TypeInfo) (z : Value) (ht : P.underlying t = some (.slice e)) (hti : P.underlying ti = some (.int k)) (hi : P.info? e = some i) (hz : i.zero = some z)
    (hsize : i.size = 1) (hby : i.bytes = 8) (hzs : z.cells = #[z]) (hz1 : z.oneCell' = true)
    (v : Value) (n : Nat) (xs : List Value) (hs : a.eval s = v) (hown : w.ownsRow base e 1 v n xs) (m : Nat) (hx : a.eval x = .int .i64 (m : Int)) (hm : m ≤ 1000000) (hn : n ≤ 1000000) (hbase : base ≤ w.heap.size)
    (hK : ∀ v' w', w'.ownsRow base e 1 v' (n + m) (xs ++ List.replicate m z) → w.grownBy w' v.ownBlock → (∀ g, v'.ownBlock = some g → v.ownBlock = some g ∨ w.heap.size ≤ g) → K (a.put o.dst v') w') :
    if Region.wanted o (yielded ops a.tmps) = true then Oper.wp P o a w K Q else E := by
  have hw : Region.wanted o (yielded ops a.tmps) = true := by simp [Region.wanted, hg]
  rw [if_pos hw]
  obtain ⟨v', w', hrun, h2, h3, h4⟩ := run_append_zeros (P := P) w base t ti o.type e k i z ht hti hi hz hsize hby hzs hz1 v n xs hown m hm hn hbase
  unfold Oper.wp
  simp [execOp, hop, resolve, invoke, builtin, hs, hx, hrun, Result.andThen]
  exact hK v' w' h2 h3 h4

theorem wpList_append_zeros {P : Program} {w : World} {ops : Array Oper} {rest : List Oper} {o : Oper} {a : Act} {Q : Exit → Act → World → Prop}
    (hg : o.guard = none) (s x : Operand) (t ti : TypeId) (hop : o.op = Op.call { callee := Callee.builtin Builtin.append, args := #[s, x], argTypes := #[t, ti] })
    (base : Nat) (e : TypeId) (k : IntKind) (i : TypeInfo) (z : Value) (ht : P.underlying t = some (.slice e)) (hti : P.underlying ti = some (.int k)) (hi : P.info? e = some i) (hz : i.zero = some z)
    (hsize : i.size = 1) (hby : i.bytes = 8) (hzs : z.cells = #[z]) (hz1 : z.oneCell' = true)
    (v : Value) (n : Nat) (xs : List Value) (hs : a.eval s = v) (hown : w.ownsRow base e 1 v n xs) (m : Nat) (hx : a.eval x = .int .i64 (m : Int)) (hm : m ≤ 1000000) (hn : n ≤ 1000000) (hbase : base ≤ w.heap.size)
    (hK : ∀ v' w', w'.ownsRow base e 1 v' (n + m) (xs ++ List.replicate m z) → w.grownBy w' v.ownBlock → (∀ g, v'.ownBlock = some g → v.ownBlock = some g ∨ w.heap.size ≤ g) → wpList P ops Q rest (a.put o.dst v') w') :
    wpList P ops Q (o :: rest) a w := by
  refine wpList_plain hg fun K hK' => ?_
  obtain ⟨v', w', hrun, h2, h3, h4⟩ := run_append_zeros (P := P) w base t ti o.type e k i z ht hti hi hz hsize hby hzs hz1 v n xs hown m hm hn hbase
  unfold Oper.wp
  simp [execOp, hop, resolve, invoke, builtin, hs, hx, hrun, Result.andThen]
  exact hK' _ _ (hK v' w' h2 h3 h4)

end Go.Proofs.YtikaoikladbdpaaGreat.M2
namespace Go.Proofs.YtikaoikladbdpaaGreat.M2
open Go.RowKit

structure Mem (w : World) (B p : Nat) (v : Value) (size : Int) (zs : List Int) (st : Int) : Prop where
  block : w.heap[p]? = some (.cells #[.int .i64 size, v, .int .i64 st] 117 (0, 0))
  low : B ≤ p
  own : w.ownsRow B 2 1 v zs.length (zs.map (Value.int .i64))
  s0 : 0 ≤ size
  s1 : size ≤ 1000
  room : (zs.length : Int) ≤ size

structure Wrote (p : Nat) (v : Value) (w w' : World) : Prop where
  os : w'.os = w.os
  tape : w'.tape = w.tape
  output : w'.output = w.output
  size : w.heap.size ≤ w'.heap.size
  block : ∀ k, k < w.heap.size → k ≠ p → v.ownBlock ≠ some k → w'.heap[k]? = w.heap[k]?

def Later (v v' : Value) (w : World) : Prop := ∀ g, v'.ownBlock = some g → v.ownBlock = some g ∨ w.heap.size ≤ g

theorem Later.refl (v : Value) (w : World) : Later v v w := fun _ h => .inl h

def Did (B p : Nat) (v : Value) (size : Int) (zs : List Int) (st : Int) (w w' : World) : Prop := ∃ v', Mem w' B p v' size zs st ∧ Wrote p v w w' ∧ Later v v' w

theorem Wrote.refl (p : Nat) (v : Value) (w : World) : Wrote p v w w := ⟨rfl, rfl, rfl, Nat.le_refl _, fun _ _ _ _ => rfl⟩
theorem Wrote.trans {p : Nat} {v : Value} {a b c : World} (h : Wrote p v a b) (k : Wrote p v b c) : Wrote p v a c :=
  ⟨k.os.trans h.os, k.tape.trans h.tape, k.output.trans h.output, Nat.le_trans h.size k.size, fun i hi h1 h2 => (k.block i (Nat.lt_of_lt_of_le hi h.size) h1 h2).trans (h.block i hi h1 h2)⟩
theorem Wrote.alloc {p : Nat} {v : Value} {a w : World} (h : Wrote p v a w) (o : Obj) : Wrote p v a (w.alloc o) :=
  h.trans ⟨rfl, rfl, rfl, by simp, fun k hk _ _ => Below.heap_alloc _ _ _ hk⟩
theorem Wrote.drewN {p : Nat} {v : Value} {a w : World} (h : Wrote p v a w) (n : Nat) : Wrote p v a (w.drewN n) := ⟨h.os, h.tape, h.output, h.size, h.block⟩
theorem Wrote.drew {p : Nat} {v : Value} {a w : World} (h : Wrote p v a w) : Wrote p v a w.drew := ⟨h.os, h.tape, h.output, h.size, h.block⟩
theorem Wrote.setCell {p : Nat} {v : Value} {a w : World} (h : Wrote p v a w) {q : Addr} (hq : a.heap.size ≤ q.block ∨ q.block = p ∨ v.ownBlock = some q.block) (u : Value) : Wrote p v a (w.setCell q u) :=
  ⟨h.os, h.tape, h.output, by simpa [World.setCell] using h.size, fun k hk h1 h2 => by
    rw [Below.heap_setCell _ _ _ _ (by rintro rfl; rcases hq with h' | h' | h'; · omega
                                       · exact h1 h'
                                       · exact h2 h')]
    exact h.block k hk h1 h2⟩
theorem Wrote.grown {p : Nat} {v : Value} {a w w' : World} (h : Wrote p v a w) (hg : w.grownBy w' v.ownBlock) : Wrote p v a w' :=
  h.trans ⟨hg.os, hg.tape, hg.output, hg.size, fun k hk _ h2 => hg.block k hk (fun e => h2 e.symm)⟩

section
variable {w : World} {B p : Nat} {v : Value} {size : Int} {zs : List Int} {st : Int}

theorem Mem.lt (h : Mem w B p v size zs st) : p < w.heap.size := lt_of_block h.block
theorem Mem.base (h : Mem w B p v size zs st) : B ≤ w.heap.size := Nat.le_of_lt (Nat.lt_of_le_of_lt h.low h.lt)
theorem Mem.c0 (h : Mem w B p v size zs st) : w.cell? ⟨p, 0, none⟩ = some (.int .i64 size) := by simp [World.cell?, h.block]
theorem Mem.c1 (h : Mem w B p v size zs st) : w.cell? ⟨p, 1, none⟩ = some v := by simp [World.cell?, h.block]
theorem Mem.c2 (h : Mem w B p v size zs st) : w.cell? ⟨p, 2, none⟩ = some (.int .i64 st) := by simp [World.cell?, h.block]
theorem Mem.f (h : Mem w B p v size zs st) (j : Nat) : w.frozen? ⟨p, j, none⟩ = false := by simp [World.frozen?, h.block]

theorem Mem.ne (h : Mem w B p v size zs st) : v.ownBlock ≠ some p := by
  intro e
  rcases h.own.2 with ⟨rfl, _⟩ | ⟨g, cap, cur, rfl, _, hg, _⟩
  · simp [Value.ownBlock] at e
  · simp only [Value.ownBlock, Option.some.injEq] at e
    subst e
    have hb := h.block
    rw [hg] at hb
    simp at hb

theorem Mem.shape (h : Mem w B p v size zs st) : ∃ ao cap, v = .slice ao zs.length cap := by
  rcases h.own.2 with ⟨rfl, e⟩ | ⟨g, cap, cur, rfl, _⟩
  · exact ⟨none, 0, by rw [e]⟩
  · exact ⟨_, cap, rfl⟩

theorem Mem.row (h : Mem w B p v size zs st) (hz : 0 < zs.length) : ∃ g cap, v = .slice (some ⟨g, 0, none⟩) zs.length cap ∧ g ≠ p ∧ B ≤ g ∧ g < w.heap.size := by
  have hn := h.ne
  rcases h.own.2 with ⟨rfl, e⟩ | ⟨g, cap, cur, rfl, hb, hg, _⟩
  · omega
  · exact ⟨g, cap, rfl, fun e => hn (by simp [Value.ownBlock, e]), hb, lt_of_block hg⟩

theorem Mem.keep {w' : World} (h : Mem w B p v size zs st) (hp : w'.heap[p]? = w.heap[p]?) (hv : ∀ g, v.ownBlock = some g → w'.heap[g]? = w.heap[g]?) : Mem w' B p v size zs st := by
  refine ⟨hp.trans h.block, h.low, ⟨h.own.1, ?_⟩, h.s0, h.s1, h.room⟩
  rcases h.own.2 with hn | ⟨g, cap, cur, rfl, hb, hg, r⟩
  · exact .inl hn
  · exact .inr ⟨g, cap, cur, rfl, hb, (hv g rfl).trans hg, r⟩

theorem Mem.rowLt (h : Mem w B p v size zs st) {g : Nat} (hg : v.ownBlock = some g) : B ≤ g ∧ g < w.heap.size := h.own.lt g hg

theorem Mem.alloc (h : Mem w B p v size zs st) (o : Obj) : Mem (w.alloc o) B p v size zs st :=
  h.keep (Below.heap_alloc _ _ _ h.lt) (fun _ hg => Below.heap_alloc _ _ _ (h.rowLt hg).2)

theorem Mem.setOther (h : Mem w B p v size zs st) {q : Addr} (h1 : q.block ≠ p) (h2 : v.ownBlock ≠ some q.block) (u : Value) : Mem (w.setCell q u) B p v size zs st :=
  h.keep (Below.heap_setCell _ _ _ _ (fun e => h1 e.symm)) (fun _ hg => Below.heap_setCell _ _ _ _ (fun e => h2 (by rw [hg, e])))

theorem Mem.drewN (h : Mem w B p v size zs st) (n : Nat) : Mem (w.drewN n) B p v size zs st := ⟨h.block, h.low, h.own, h.s0, h.s1, h.room⟩
theorem Mem.drew (h : Mem w B p v size zs st) : Mem w.drew B p v size zs st := ⟨h.block, h.low, h.own, h.s0, h.s1, h.room⟩

theorem Mem.setSteps (h : Mem w B p v size zs st) (x : Int) : Mem (w.setCell ⟨p, 2, none⟩ (.int .i64 x)) B p v size zs x := by
  refine ⟨?_, h.low, ownsRow_setCell_other h.own h.ne _, h.s0, h.s1, h.room⟩
  rw [heap_setCell_same w p 2 _ _ _ h.block]
  rfl

theorem Mem.cell (h : Mem w B p v size zs st) {g cap : Nat} (hv : v = .slice (some ⟨g, 0, none⟩) zs.length cap) {a : Int} (h0 : 0 ≤ a) (h1 : a < zs.length) :
    w.cell? ⟨g, a.toNat, none⟩ = some (.int .i64 (zs.getD a.toNat 0)) ∧ w.frozen? ⟨g, a.toNat, none⟩ = false := by
  subst hv
  have hl : a.toNat < zs.length := by omega
  refine ⟨?_, h.own.frozenAt _⟩
  rw [h.own.cellAt a.toNat (by omega)]
  simp [List.getD, hl]

theorem Mem.setAt (h : Mem w B p v size zs st) {g cap : Nat} (hv : v = .slice (some ⟨g, 0, none⟩) zs.length cap) (j : Nat) (x : Int) :
    Mem (w.setCell ⟨g, j, none⟩ (.int .i64 x)) B p v size (zs.set j x) st := by
  have hne := h.ne
  subst hv
  have hs := (h.own.stored j (.int .i64 x)).1
  refine ⟨?_, h.low, ?_, h.s0, h.s1, by simpa using h.room⟩
  · rw [Below.heap_setCell _ _ _ _ (by simpa [Value.ownBlock, eq_comm] using hne)]; exact h.block
  · simpa [List.map_set] using hs

end

theorem Wrote.below {p : Nat} {v : Value} {w w' : World} {B : Nat} (h : Wrote p v w w') (hB : B ≤ w.heap.size) (hp : B ≤ p) (hv : ∀ g, v.ownBlock = some g → B ≤ g) : Below B w w' :=
  ⟨h.os, h.tape, h.output, h.size, fun k hk => h.block k (by omega) (by omega) (fun e => by have := hv k e; omega)⟩

def Mem1 (w : World) (B p : Nat) (size : Int) (zs : List Int) (st : Int) : Prop := ∃ v, Mem w B p v size zs st

theorem Mem.fresh {w w' : World} {B p : Nat} {v : Value} {size : Int} {zs : List Int} {st : Int} (m : Mem w B p v size zs st) (b : Below w.heap.size w w') : Mem w' B p v size zs st :=
  m.keep (b.block _ m.lt) (fun _ hg => b.block _ (m.rowLt hg).2)

end Go.Proofs.YtikaoikladbdpaaGreat.M2
namespace Go.Proofs.YtikaoikladbdpaaGreat.M2
open Go.RowKit

section
variable {w : World} {B p : Nat} {v : Value} {size : Int} {zs : List Int} {st : Int}

theorem topAny (h : Mem w B p v size zs st) :
    Calls Tryz.prog 99 #[.pointer (some ⟨p, 0, none⟩)] w fun e w' => e = .returned (.int .i64 zs.length) ∧ w = w' := by
  have c1 := h.c1
  obtain ⟨ao, cap, rfl⟩ := h.shape
  have H := Lib.hid h
  clear h
  go_enter Tryz.func99, Tryz.ntmps99
  go_wp2
  go_ret
  exact ⟨rfl, rfl⟩

theorem roomAny (h : Mem w B p v size zs st) :
    Calls Tryz.prog 64 #[.pointer (some ⟨p, 0, none⟩)] w fun e w' => e = .returned (.int .i64 (size - zs.length)) ∧ ∃ n, w' = w.drewN n := by
  have c0 := h.c0
  have c1 := h.c1
  obtain ⟨ao, cap, rfl⟩ := h.shape
  have s0 := h.s0
  have s1 := h.s1
  have r := h.room
  have t : IntKind.i64.wrap (size - zs.length) = size - zs.length := IntWalk.i64_in _ (by omega)
  have H := Lib.hid h
  clear h
  go_enter Tryz.func64, Tryz.ntmps64
  go_wp2
  go_quiet (fail)
  go_wp2
  go_ret
  exact ⟨rfl, _, rfl⟩

theorem cellIn (h : Mem w B p v size zs st) {g cap : Nat} (hv : v = .slice (some ⟨g, 0, none⟩) zs.length cap) (a : Int) (h0 : 0 ≤ a) (h1 : a < zs.length) :
    Calls Tryz.prog 60 #[.pointer (some ⟨p, 0, none⟩), .int .i64 a] w fun e w' => e = .returned (.pointer (some ⟨g, a.toNat, none⟩)) ∧ w = w' := by
  have T := topAny h
  have c1 := h.c1
  subst hv
  have H := Lib.hid h
  clear h
  have h2 : ¬ a < 0 := by omega
  go_enter Tryz.func60, Tryz.ntmps60
  go_wp2_with (go_at_call 99; refine T.mono ?_; rintro e w' ⟨rfl, rfl⟩)
  go_ret
  exact ⟨by simp, rfl⟩

theorem cellOut (h : Mem w B p v size zs st) (a : Int) (h0 : a < 0 ∨ zs.length ≤ a) :
    Calls Tryz.prog 60 #[.pointer (some ⟨p, 0, none⟩), .int .i64 a] w fun e w' => e = .returned (.pointer none) ∧ w = w' := by
  have T := topAny h
  clear h
  by_cases h1 : a < 0
  · clear h0
    go_enter Tryz.func60, Tryz.ntmps60
    go_wp2_with (go_at_call 99; refine T.mono ?_; rintro e w' ⟨rfl, rfl⟩)
    go_ret
    exact ⟨rfl, rfl⟩
  · have h2 : (zs.length : Int) ≤ a := by omega
    clear h0
    go_enter Tryz.func60, Tryz.ntmps60
    go_wp2_with (go_at_call 99; refine T.mono ?_; rintro e w' ⟨rfl, rfl⟩)
    go_ret
    exact ⟨rfl, rfl⟩

theorem countOk (hc : w.cell? ⟨p, 2, none⟩ = some (.int .i64 st)) (hf : w.frozen? ⟨p, 2, none⟩ = false) (h0 : 0 ≤ st) (h1 : st < 1000000) :
    Calls Tryz.prog 59 #[.pointer (some ⟨p, 0, none⟩), .int .u16 0] w fun e w' => e = .returned (.tuple #[]) ∧ w' = w.setCell ⟨p, 2, none⟩ (.int .i64 (st + 1)) := by
  go_enter Tryz.func59, Tryz.ntmps59
  go_wp2
  go_end0
  exact ⟨rfl, rfl⟩

theorem countErr (p : Nat) (w : World) (x : Int) (h0 : 0 < x) :
    Calls Tryz.prog 59 #[.pointer (some ⟨p, 0, none⟩), .int .u16 x] w fun e w' => e = .returned (.tuple #[]) ∧ w' = w := by
  have h1 : ¬ x = 0 := by omega
  go_enter Tryz.func59, Tryz.ntmps59
  go_wp2
  go_end0
  exact ⟨rfl, rfl⟩

theorem okAlloc {x y : Addr} (u : FrameMode) (hx : w.cell? x = some (.pointer (some ⟨p, 0, none⟩))) (hy : w.cell? y = some (.int .u16 0)) (hc : w.cell? ⟨p, 2, none⟩ = some (.int .i64 st)) (hf : w.frozen? ⟨p, 2, none⟩ = false) (h0 : 0 ≤ st) (h1 : st < 1000000) :
    CallsD Tryz.prog 63 #[.pointer (some x), .pointer (some y)] u w fun e u' w' => u' = u ∧ (e = .returned (.tuple #[]) ∧ w' = w.setCell ⟨p, 2, none⟩ (.int .i64 (st + 1))) := by
  have T := countOk (w := w) hc hf h0 h1
  go_enter_d Tryz.func63, Tryz.ntmps63
  go_wp2_with (go_at_call 59; refine T.mono ?_; rintro e w' ⟨rfl, rfl⟩)
  go_end0
  exact ⟨rfl, rfl⟩

theorem okLoad {x y : Addr} (u : FrameMode) (hx : w.cell? x = some (.pointer (some ⟨p, 0, none⟩))) (hy : w.cell? y = some (.int .u16 0)) (hc : w.cell? ⟨p, 2, none⟩ = some (.int .i64 st)) (hf : w.frozen? ⟨p, 2, none⟩ = false) (h0 : 0 ≤ st) (h1 : st < 1000000) :
    CallsD Tryz.prog 58 #[.pointer (some x), .pointer (some y)] u w fun e u' w' => u' = u ∧ (e = .returned (.tuple #[]) ∧ w' = w.setCell ⟨p, 2, none⟩ (.int .i64 (st + 1))) := by
  have T := countOk (w := w) hc hf h0 h1
  go_enter_d Tryz.func58, Tryz.ntmps58
  go_wp2_with (go_at_call 59; refine T.mono ?_; rintro e w' ⟨rfl, rfl⟩)
  go_end0
  exact ⟨rfl, rfl⟩

theorem errLoad {x y : Addr} (u : FrameMode) (z : Int) (h0 : 0 < z) (hx : w.cell? x = some (.pointer (some ⟨p, 0, none⟩))) (hy : w.cell? y = some (.int .u16 z)) :
    CallsD Tryz.prog 58 #[.pointer (some x), .pointer (some y)] u w fun e u' w' => u' = u ∧ (e = .returned (.tuple #[]) ∧ w' = w) := by
  have T := countErr p w z h0
  go_enter_d Tryz.func58, Tryz.ntmps58
  go_wp2_with (go_at_call 59; refine T.mono ?_; rintro e w' ⟨rfl, rfl⟩)
  go_end0
  exact ⟨rfl, rfl⟩

theorem okStore {x y : Addr} (u : FrameMode) (hx : w.cell? x = some (.pointer (some ⟨p, 0, none⟩))) (hy : w.cell? y = some (.int .u16 0)) (hc : w.cell? ⟨p, 2, none⟩ = some (.int .i64 st)) (hf : w.frozen? ⟨p, 2, none⟩ = false) (h0 : 0 ≤ st) (h1 : st < 1000000) :
    CallsD Tryz.prog 61 #[.pointer (some x), .pointer (some y)] u w fun e u' w' => u' = u ∧ (e = .returned (.tuple #[]) ∧ w' = w.setCell ⟨p, 2, none⟩ (.int .i64 (st + 1))) := by
  have T := countOk (w := w) hc hf h0 h1
  go_enter_d Tryz.func61, Tryz.ntmps61
  go_wp2_with (go_at_call 59; refine T.mono ?_; rintro e w' ⟨rfl, rfl⟩)
  go_end0
  exact ⟨rfl, rfl⟩

theorem errStore {x y : Addr} (u : FrameMode) (z : Int) (h0 : 0 < z) (hx : w.cell? x = some (.pointer (some ⟨p, 0, none⟩))) (hy : w.cell? y = some (.int .u16 z)) :
    CallsD Tryz.prog 61 #[.pointer (some x), .pointer (some y)] u w fun e u' w' => u' = u ∧ (e = .returned (.tuple #[]) ∧ w' = w) := by
  have T := countErr p w z h0
  go_enter_d Tryz.func61, Tryz.ntmps61
  go_wp2_with (go_at_call 59; refine T.mono ?_; rintro e w' ⟨rfl, rfl⟩)
  go_end0
  exact ⟨rfl, rfl⟩

theorem okSwap {x y : Addr} (u : FrameMode) (hx : w.cell? x = some (.pointer (some ⟨p, 0, none⟩))) (hy : w.cell? y = some (.int .u16 0)) (hc : w.cell? ⟨p, 2, none⟩ = some (.int .i64 st)) (hf : w.frozen? ⟨p, 2, none⟩ = false) (h0 : 0 ≤ st) (h1 : st < 1000000) :
    CallsD Tryz.prog 124 #[.pointer (some x), .pointer (some y)] u w fun e u' w' => u' = u ∧ (e = .returned (.tuple #[]) ∧ w' = w.setCell ⟨p, 2, none⟩ (.int .i64 (st + 1))) := by
  have T := countOk (w := w) hc hf h0 h1
  go_enter_d Tryz.func124, Tryz.ntmps124
  go_wp2_with (go_at_call 59; refine T.mono ?_; rintro e w' ⟨rfl, rfl⟩)
  go_end0
  exact ⟨rfl, rfl⟩

theorem errSwap {x y : Addr} (u : FrameMode) (z : Int) (h0 : 0 < z) (hx : w.cell? x = some (.pointer (some ⟨p, 0, none⟩))) (hy : w.cell? y = some (.int .u16 z)) :
    CallsD Tryz.prog 124 #[.pointer (some x), .pointer (some y)] u w fun e u' w' => u' = u ∧ (e = .returned (.tuple #[]) ∧ w' = w) := by
  have T := countErr p w z h0
  go_enter_d Tryz.func124, Tryz.ntmps124
  go_wp2_with (go_at_call 59; refine T.mono ?_; rintro e w' ⟨rfl, rfl⟩)
  go_end0
  exact ⟨rfl, rfl⟩

end

end Go.Proofs.YtikaoikladbdpaaGreat.M2
