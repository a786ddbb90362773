/-
  What reaperlaw14.Chain tells: records that hang together. Conditions: at most 2^47 bytes.
-/
import Derived.Test.YtikaoikladbdpaaGreatG2716
namespace Go.Proofs.YtikaoikladbdpaaGreat.M2
open Go.RowKit

theorem run_append_nothing {P : Program} (w : World) (base : Nat) (t ty e : TypeId) (i : TypeInfo) (size : Nat) (ht : P.underlying t = some (.slice e)) (hi : P.info? e = some i) (v : Value) (n : Nat) (xs : List Value) (hown : w.ownsRow base e size v n xs) (c : Nat) :
    (Builtin.append_ #[t, t] ty #[v, .slice none 0 c]).run P w = .ok v w := by
  rcases hown.2 with ⟨rfl, rfl⟩ | ⟨g, cap, cur, rfl, _, _, hle, _⟩
  · simp [Builtin.append_, run_underlying ht, sizeOf, typeInfo, hi, Builtin.lenOf, Builtin.firstCells]
  · simp [Builtin.append_, run_underlying ht, sizeOf, typeInfo, hi, Builtin.lenOf, Builtin.firstCells, hle, storeCells]

theorem wpList_append_src {P : Program} (w : World) {ops : Array Oper} {rest : List Oper} {o : Oper} {a : Act} {Q : Exit → Act → World → Prop} (hgd : o.guard = none) (s x : Operand) (t : TypeId)
    (ho : o.op = .call { callee := .builtin .append, args := #[s, x], argTypes := #[t, t] })
    (base : Nat) (e : TypeId) (i : TypeInfo) (z : Value) (size bytes : Nat) (ht : P.underlying t = some (.slice e)) (hi : P.info? e = some i) (hz : i.zero = some z)
    (hsize : i.size = size) (hby : i.bytes = bytes) (hzs : z.cells.size = size) (hsz : 0 < size)
    (v : Value) (n : Nat) (xs : List Value) (hs : a.eval s = v) (hown : w.ownsRow base e size v n xs)
    (A : Option Addr) (m c : Nat) (news : List Value) (hx : a.eval x = .slice A m c) (hl : news.length = m * size) (hnews : 0 < m → ∃ ad, A = some ad ∧ ∀ j u, news[j]? = some u → w.cell? (ad.add j) = some u) (h1 : ∀ u ∈ news, u.oneCell' = true)
    (h63 : n + m ≤ maxLen) (hbytes : (n + m) * bytes ≤ 140737488355328) (hbase : base ≤ w.heap.size)
    (h : ∀ v' w', w'.ownsRow base e size v' (n + m) (xs ++ news) → w.grownBy w' v.ownBlock → wpList P ops Q rest (a.put o.dst v') w') : wpList P ops Q (o :: rest) a w := by
  cases A with
  | some ad =>
    refine wpList_append_own w hgd s x t ho base e i z size bytes ht hi hz hsize hby hzs hsz v n xs hs hown ad m c news hx hl ?_ h1 h63 hbytes hbase fun v' w' h2 h3 _ => h v' w' h2 h3
    rcases Nat.eq_zero_or_pos m with h0 | h0
    · subst h0
      have hn : news = [] := List.eq_nil_of_length_eq_zero (by simpa using hl)
      subst hn
      intro j u hu
      simp at hu
    · obtain ⟨ad', e', hc⟩ := hnews h0
      injection e' with e'
      subst e'
      exact hc
  | none =>
    have hm : m = 0 := by
      rcases Nat.eq_zero_or_pos m with h0 | h0
      · exact h0
      · obtain ⟨_, e', _⟩ := hnews h0
        cases e'
    subst hm
    have hn : news = [] := List.eq_nil_of_length_eq_zero (by simpa using hl)
    subst hn
    refine wpList_plain hgd fun K hK => ?_
    have hrun := run_append_nothing (P := P) w base t o.type e i size ht hi v n xs hown c
    unfold Oper.wp
    simp [execOp, ho, resolve, invoke, builtin, hs, hx, hrun, Result.andThen]
    exact hK _ _ (h v w (by simpa using hown) ⟨rfl, rfl, rfl, Nat.le_refl _, fun _ _ _ => rfl⟩)

theorem src_take {W : World} {g k t : Nat} {od : List Nat} (h : ∀ i, i < k → W.cell? ⟨g, i, none⟩ = some (.int .i64 ((od.getD i 0 : Nat) : Int))) (hk : od.length = k) (ht : t ≤ k) :
    0 < t → ∃ ad, some (⟨g, 0, none⟩ : Addr) = some ad ∧ ∀ j u, ((ints (od.take t)).map (Value.int .i64))[j]? = some u → W.cell? (ad.add j) = some u := by
  refine fun _ => ⟨_, rfl, fun j u hu => ?_⟩
  rw [Addr.add_lit, Nat.zero_add]
  simp only [ints, List.getElem?_map, List.getElem?_take] at hu
  by_cases hj : j < t
  · rw [if_pos hj] at hu
    have hjk : j < od.length := by omega
    rw [h j (by omega)]
    simp only [List.getElem?_eq_getElem hjk, Option.map_some, Option.some.injEq] at hu
    rw [← hu]
    simp [List.getD, hjk]
  · rw [if_neg hj] at hu
    simp at hu
theorem src_drop {W : World} {g k t : Nat} {od : List Nat} (h : ∀ i, i < k → W.cell? ⟨g, i, none⟩ = some (.int .i64 ((od.getD i 0 : Nat) : Int))) (hk : od.length = k) (_ : t ≤ k) :
    0 < k - t → ∃ ad, some (⟨g, t, none⟩ : Addr) = some ad ∧ ∀ j u, ((ints (od.drop t)).map (Value.int .i64))[j]? = some u → W.cell? (ad.add j) = some u := by
  refine fun _ => ⟨_, rfl, fun j u hu => ?_⟩
  rw [Addr.add_lit]
  simp only [ints, List.getElem?_map, List.getElem?_drop] at hu
  by_cases hj : t + j < k
  · have hjk : t + j < od.length := by omega
    rw [h (t + j) hj]
    simp only [List.getElem?_eq_getElem hjk, Option.map_some, Option.some.injEq] at hu
    rw [← hu]
    simp [List.getD, hjk]
  · rw [List.getElem?_eq_none (by omega)] at hu
    simp at hu

theorem src_dropIf {W : World} {g k t cap : Nat} {od : List Nat} (h : ∀ i, i < k → W.cell? ⟨g, i, none⟩ = some (.int .i64 ((od.getD i 0 : Nat) : Int))) (hk : od.length = k) (ht : t ≤ k) (hc : k ≤ cap) :
    0 < k - t → ∃ ad, (if cap = t then some (⟨g, 0, none⟩ : Addr) else some ⟨g, t, none⟩) = some ad ∧ ∀ j u, ((ints (od.drop t)).map (Value.int .i64))[j]? = some u → W.cell? (ad.add j) = some u := by
  intro h0
  rw [if_neg (by omega)]
  exact src_drop h hk ht h0

def XR (wr : World) (v : Value) (ys : List Nat) (W : World) : Prop := W.ownsRow wr.heap.size 3 1 v ys.length ((ints ys).map (Value.int .i64)) ∧ Below wr.heap.size wr W
theorem XR.nil (wr : World) : XR wr (.slice none 0 0) [] wr := ⟨World.ownsRow_nil _ _ _ _, Below.refl _ _⟩
theorem XR.row {wr W : World} {v : Value} {ys : List Nat} (h : XR wr v ys W) (g : Nat) (hg : v.ownBlock = some g) : wr.heap.size ≤ g := by
  have h1 := h.1
  rw [← ints_len] at h1
  obtain ⟨_, _, h3⟩ := LB.row h1 g hg
  exact h3
theorem XR.next {wr W W' V : World} {v v' : Value} {ys nw : List Nat} {m : Nat} (h : XR wr v ys W) (hV : Below wr.heap.size W V) (q : W'.ownsRow wr.heap.size 3 1 v' (ys.length + m) ((ints ys).map (Value.int .i64) ++ (ints nw).map (Value.int .i64))) (hm : nw.length = m) (g : V.grownBy W' v.ownBlock) : XR wr v' (ys ++ nw) W' := by
  refine ⟨?_, (h.2.trans hV).grown g (h.2.trans hV).size (fun b e => h.row b e)⟩
  rw [List.length_append, hm]
  simpa [ints] using q

theorem ownBase {w : World} {a b : Nat} {v : Value} {k : Nat} {xs : List Value} (h : w.ownsRow b 3 1 v k xs) (hab : a ≤ b) : w.ownsRow a 3 1 v k xs := by
  refine ⟨h.1, ?_⟩
  rcases h.2 with h' | ⟨g, cap, cur, h1, hb, h3⟩
  · exact .inl h'
  · exact .inr ⟨g, cap, cur, h1, Nat.le_trans hab hb, h3⟩

theorem rowCells {w : World} {b g k cap : Nat} {od : List Nat} (h : w.ownsRow b 3 1 (.slice (some ⟨g, 0, none⟩) k cap) k ((ints od).map (Value.int .i64))) (hk : od.length = k) : (∀ i, i < k → w.cell? ⟨g, i, none⟩ = some (.int .i64 ((od.getD i 0 : Nat) : Int))) ∧ k ≤ cap := by
  obtain ⟨ao, cp, e, hr, hc, _⟩ := _root_.Go.Proofs.YtikaoikladbdpaaGreat.reads_own h
  simp only [Value.slice.injEq] at e
  obtain ⟨rfl, _, rfl⟩ := e
  refine ⟨fun i hi => ?_, hc⟩
  obtain ⟨b', o', e', _, hcell⟩ := hr.2 (by omega)
  simp only [Option.some.injEq, Addr.mk.injEq] at e'
  obtain ⟨rfl, rfl, _⟩ := e'
  have := hcell i hi
  rw [Nat.zero_add] at this
  rw [this]
  have hi2 : i < od.length := by omega
  simp [ints, List.getD, hi2]

theorem VR.set {w : World} {g i : Nat} {vs : List Int} (h : VR w g vs) (x : Int) : VR (w.setCell ⟨g, i, none⟩ (.int .i64 x)) g (vs.set i x) := by
  unfold VR at h ⊢
  rw [heap_setCell_same w g i _ _ _ h]
  simp
theorem VR.made {w w1 : World} {n : Nat} (ho : w1.ownsRow w.heap.size 2 1 (.slice (some ⟨w.heap.size, 0, none⟩) n n) n (madeCells (Value.int .i64 0).cells (n * 1)).toList) : VR w1 w.heap.size (List.replicate n 0) := by
  have hr := _root_.Go.Proofs.YtikaoikladbdpaaGreat.rowWhole ho
  rw [show (Value.int .i64 0).cells = #[Value.int .i64 0] from rfl, Nat.mul_one, toList_madeCells_one] at hr
  unfold VR
  rw [hr]
  simp

def LW (w : World) (gl g m : Nat) (os : List Nat) (zs : List Int) (W : World) : Prop := VR W gl zs ∧ Reads .i64 W (some ⟨g, 0, none⟩) m (ints os) ∧ Below w.heap.size w W
theorem LW.store {w W : World} {gl g m i : Nat} {os : List Nat} {zs : List Int} (h : LW w gl g m os zs W) (h1 : w.heap.size ≤ gl) (h2 : g ≠ gl) (x : Int) : LW w gl g m os (zs.set i x) (W.setCell ⟨gl, i, none⟩ (.int .i64 x)) := by
  refine ⟨h.1.set x, ?_, h.2.2.setCell h1 _⟩
  refine ⟨h.2.1.1, fun h0 => ?_⟩
  obtain ⟨b, o, e, hl, hc⟩ := h.2.1.2 h0
  simp only [Option.some.injEq, Addr.mk.injEq] at e
  obtain ⟨rfl, rfl, _⟩ := e
  exact ⟨_, _, rfl, by simpa [World.setCell] using hl, fun j hj => cellOther _ h2 (hc j hj)⟩
theorem LW.drewN {w W : World} {gl g m q : Nat} {os : List Nat} {zs : List Int} (h : LW w gl g m os zs W) : LW w gl g m os zs (W.drewN q) := ⟨h.1, h.2.1, below_drewN h.2.2 q⟩
theorem LW.cell {w W : World} {gl g m i : Nat} {os : List Nat} {zs : List Int} (h : LW w gl g m os zs W) (hm : os.length = m) (hi : i < m) : W.cell? ⟨g, i, none⟩ = some (.int .i64 ((os.getD i 0 : Nat) : Int)) := by
  obtain ⟨b, o, e, hl, hc⟩ := h.2.1.2 (by omega)
  simp only [Option.some.injEq, Addr.mk.injEq] at e
  obtain ⟨rfl, rfl, _⟩ := e
  have := hc i hi
  rw [Nat.zero_add] at this
  rw [this]
  have hi2 : i < os.length := by omega
  simp [ints, List.getD, hi2]

def ChnNew (w : World) (M : Nat) (e : Ending) (w' : World) : Prop :=
  ∃ (n : Nat) (os : List Nat) (zs : List Int) (gl g c : Nat), e = .returned (.tuple #[.slice (some ⟨gl, 0, none⟩) (3 + 5 * n) (3 + 5 * n), .slice (some ⟨g, 0, none⟩) os.length c]) ∧ (1 ≤ n ∧ n ≤ 9) ∧ os.length = min M n ∧ Os n os ∧ ChK n os os.length zs ∧ LW w gl g os.length os zs w' ∧ w.heap.size ≤ gl ∧ g ≠ gl ∧ os.length ≤ c
def ChRel (w : World) (n gl g m : Nat) (os : List Nat) (i : Value) (wr : World) : Prop :=
  ∃ (k : Nat) (zs : List Int), k ≤ m ∧ i = .int .i64 k ∧ ChK n os k zs ∧ LW w gl g m os zs wr

def OrdRel (w : World) (n : Nat) (v i : Value) (wr : World) : Prop :=
  ∃ (k : Nat) (od : List Nat), k ≤ n ∧ i = .int .i64 k ∧ wr.ownsRow w.heap.size 3 1 v od.length ((ints od).map (Value.int .i64)) ∧ od.Perm ((List.range k).map (fun j => 3 + 5 * j)) ∧ Below w.heap.size w wr

set_option maxRecDepth 100000 in
set_option maxHeartbeats 16000000 in
theorem chainAny (w : World) (ac : Option Addr) (nc cc : Nat) (xs : List Int) (hx : ArgBytes w ac nc cc xs) (hnc : nc ≤ 140737488351232) (many : Int) (m0 : 0 ≤ many) (m1 : many ≤ 100) :
    Calls Tryz.prog 14 #[.slice ac nc cc, .int .i64 many] w (ChnNew w many.toNat) := by
  obtain ⟨i0, hi, hz0, hz1, hz2⟩ := info_parts infoInt
  obtain ⟨j0, hj, hy0, hy1, hy2⟩ := info_parts infoInt64
  have HX := Lib.hid hx
  clear hx
  go_enter Tryz.func14, Tryz.ntmps14
  go_upto_if 16 with (fail)
  go_cut [6] from 17 to 22 (fun n wx => ∃ m : Nat, n = .int .i64 (m : Int) ∧ 1 ≤ m ∧ m ≤ 9 ∧ Hid (w = wx))
  case first =>
    by_cases h0 : 0 < nc
    · have hzl := HX.out.1.1
      obtain ⟨b, off, rfl, lb, hc⟩ := HX.out.1.2 (by omega)
      have c0 := hc 0 h0
      rw [Nat.add_zero] at c0
      have hq := HX.out.2.2.2 (xs.getD 0 0) (by simp [List.getD, hzl, h0])
      clear hc
      generalize xs.getD 0 0 = q at *
      obtain ⟨q0, q1⟩ := hq
      have d0 : (0 : Int) < nc := by omega
      go_wp2
      go_meet
      exact ⟨(1 + q % 9).toNat, by rw [Int.toNat_of_nonneg (by omega)], by omega, by omega, rfl⟩
    · obtain rfl : nc = 0 := by omega
      go_wp2
      go_meet
      exact ⟨1, rfl, by omega, by omega, rfl⟩
  case' rest => skip
  obtain ⟨n, rfl, hn1, hn9, hwc⟩ := hcut
  have hwc : w = wc := hwc
  subst hwc
  go_wp2
  go_loopw [7, 8] (fun v i wr => OrdRel w n v i wr) (fun _ i _ => n - (intOf i).toNat)
  case atStart => exact ⟨0, [], Nat.zero_le _, rfl, World.ownsRow_nil _ _ _ _, by simp, Below.refl _ _⟩
  case round =>
    obtain ⟨k, od, hk, rfl, hO, hP, hB⟩ := hrel
    have hlen := order_len hP
    have HO := Lib.hid hO
    have HP := Lib.hid hP
    have HB := Lib.hid hB
    rw [hlen] at hO
    clear hP hB
    by_cases hlt : k < n
    · have k0 : (k : Int) < n := by omega
      go_upto_if 31 with (fail)
      go_cut [9] from 32 to 39 (fun a wx => ∃ t : Nat, a = .int .i64 (t : Int) ∧ t ≤ k ∧ Hid (wr = wx))
      case first =>
        by_cases hc : k < nc
        · have hzl := HX.out.1.1
          obtain ⟨b, off, rfl, lb, hcc⟩ := HX.out.1.2 (by omega)
          have c0 := (HB.out.cell (p := ⟨b, off + k, none⟩) lb).trans (hcc k hc)
          have hq := HX.out.2.2.2 (xs.getD k 0) (by simp [List.getD, hzl, hc])
          clear hcc hO
          generalize xs.getD k 0 = q at *
          obtain ⟨q0, q1⟩ := hq
          have d0 : (k : Int) < nc := by omega
          go_wp2
          go_meet
          have e1 := Int.emod_nonneg q (show (k : Int) + 1 ≠ 0 by omega)
          have e2 := Int.emod_lt_of_pos q (show (0 : Int) < (k : Int) + 1 by omega)
          exact ⟨(q % ((k : Int) + 1)).toNat, by rw [Int.toNat_of_nonneg e1], by omega, rfl⟩
        · have d0 : (nc : Int) ≤ k := by omega
          clear hO
          go_wp2
          go_meet
          exact ⟨0, rfl, by omega, rfl⟩
      case' rest => skip
      obtain ⟨t, rfl, ht, hwr⟩ := hcut
      have hwr : wr = wc := hwr
      subst hwr
      rcases hO.2 with ⟨rfl, hnil⟩ | ⟨g, cap, cur, rfl, hbg, hg, h3⟩
      · have hk0 : k = 0 := hnil
        subst hk0
        obtain rfl : t = 0 := by omega
        have hod : od = [] := List.eq_nil_of_length_eq_zero hlen
        subst hod
        clear hO hlen
        have HK5 := Lib.hid (show (ints [3]).map (Value.int .i64) = [.int .i64 3] by simp [ints])
        go_wp2_with (first
          | (at_builtin; (refine wpList_append_later rfl (.tmp 45) (.tmp 49) 33 rfl wr.heap.size 3 i0 _ 1 8 Tryz.underlying33 hi hz0 hz1 hz2 rfl (by decide) (.slice none 0 0) 0 [] rfl (World.ownsRow_nil _ _ _ _) ⟨wr.heap.size, 0, none⟩ 1 1 [.int .i64 3] rfl rfl (by intro j u hu; cases j <;> simp at hu; subst hu; go_simp) (by intro u hu; simp at hu; subst hu; rfl) (by simp only [maxLen]; omega) (by omega) (by simp) ?_; intro v2 w2 q2 g2 _; have H2 := Lib.hid ((XR.nil wr).next (nw := [3]) ((Below.refl _ wr).alloc (Nat.le_refl _) _) (by rw [HK5.out]; exact q2) rfl g2); obtain ⟨a2, c2, rfl⟩ := _root_.Go.Proofs.YtikaoikladbdpaaGreat.ownShape q2; clear q2 g2))
          | (at_builtin; (refine wpList_append_src _ rfl (.tmp 51) (.tmp 54) 33 rfl wr.heap.size 3 i0 _ 1 8 Tryz.underlying33 hi hz0 hz1 hz2 rfl (by decide) _ _ _ rfl H2.out.1 _ _ _ [] rfl rfl (fun h => absurd h (by omega)) (by simp) (by simp only [maxLen, List.nil_append, List.length_cons, List.length_nil]; omega) (by simp only [List.nil_append, List.length_cons, List.length_nil]; omega) H2.out.2.size ?_; intro v3 w3 q3 g3; have H3 := Lib.hid (H2.out.next (nw := []) (Below.refl _ _) q3 rfl g3); obtain ⟨a3, c3, rfl⟩ := _root_.Go.Proofs.YtikaoikladbdpaaGreat.ownShape q3; clear q3 g3)))
        go_roundw
        case rel => exact ⟨1, [3], by omega, rfl, ownBase H3.out.1 HB.out.size, by simp [List.range_succ], HB.out.trans (H3.out.2.mono HB.out.size)⟩
        case measure => simp [intOf]; omega
      · have t0 : (t : Int) ≤ k := by omega
        have t1 : (k : Int) ≤ cap := by have := (rowCells hO hlen).2; omega
        have HTk := Lib.hid (show (od.take t).length = t by rw [List.length_take]; omega)
        have HDr := Lib.hid (show (od.drop t).length = k - t by rw [List.length_drop]; omega)
        have HL2 := Lib.hid (show ([] ++ od.take t ++ [3 + 5 * k]).length = t + 1 by simp; omega)
        have HK5 := Lib.hid (show (ints [3 + 5 * k]).map (Value.int .i64) = [.int .i64 (3 + 5 * (k : Int))] by simp [ints])
        have HI5 := Lib.hid (show (ints (od.take t ++ [3 + 5 * k])).map (Value.int .i64) = (ints (od.take t)).map (Value.int .i64) ++ [.int .i64 (3 + 5 * (k : Int))] by simp [ints])
        have HLen := Lib.hid hlen
        have HTL := Lib.hid ht
        have HKC := Lib.hid (show k ≤ cap by omega)
        have hcell : ∀ i, i < k → wr.cell? ⟨g, i, none⟩ = some (.int .i64 ((od.getD i 0 : Nat) : Int)) := by
          intro i hik
          exact (rowCells hO hlen).1 i hik
        have HC := Lib.hid (fun (W : World) (hb : Below wr.heap.size wr W) (i : Nat) (hik : i < k) => (hb.cell (p := ⟨g, i, none⟩) (lt_of_block hg)).trans (hcell i hik))
        clear hO hlen ht hcell hg h3
        go_wp2_with (first
          | (at_builtin; refine wpList_append_src _ rfl (.tmp 40) (.tmp 43) 33 rfl wr.heap.size 3 i0 _ 1 8 Tryz.underlying33 hi hz0 hz1 hz2 rfl (by decide) (.slice none 0 0) 0 [] rfl (World.ownsRow_nil _ _ _ _) _ _ _ ((ints (od.take t)).map (Value.int .i64)) rfl (by rw [List.length_map, ints_len, HTk.out, Nat.mul_one]) (src_take (HC.out _ (Below.refl _ _)) HLen.out HTL.out) (ints_oneCell _ _) (by simp only [maxLen]; omega) (by omega) (Nat.le_refl _) ?_; intro v1 w1 q1 g1; have H1 := Lib.hid ((XR.nil wr).next (Below.refl _ _) q1 HTk.out g1); have E1 := Lib.hid (show w1.ownsRow wr.heap.size 3 1 v1 t ((ints (od.take t)).map (Value.int .i64)) by simpa using q1); obtain ⟨a1, c1, rfl⟩ := _root_.Go.Proofs.YtikaoikladbdpaaGreat.ownShape E1.out; clear q1 g1)
          | (at_builtin; (refine wpList_append_later rfl (.tmp 45) (.tmp 49) 33 rfl wr.heap.size 3 i0 _ 1 8 Tryz.underlying33 hi hz0 hz1 hz2 rfl (by decide) _ _ _ rfl (E1.out.alloc _) ⟨w1.heap.size, 0, none⟩ 1 1 [.int .i64 (3 + 5 * (k : Int))] rfl rfl (by intro j u hu; cases j <;> simp at hu; subst hu; go_simp) (by intro u hu; simp at hu; subst hu; rfl) (by simp only [maxLen]; omega) (by omega) (by have := H1.out.2.size; simp; omega) ?_; intro v2 w2 q2 g2 _; have H2 := Lib.hid (H1.out.next (nw := [3 + 5 * k]) ((Below.refl _ w1).alloc H1.out.2.size _) (by rw [HK5.out, List.nil_append, HTk.out]; exact q2) rfl g2); have E2 := Lib.hid (show w2.ownsRow wr.heap.size 3 1 v2 (t + 1) ((ints (od.take t ++ [3 + 5 * k])).map (Value.int .i64)) by rw [HI5.out]; exact q2); obtain ⟨a2, c2, rfl⟩ := _root_.Go.Proofs.YtikaoikladbdpaaGreat.ownShape E2.out; clear q2 g2))
          | (at_builtin; (refine wpList_append_src _ rfl (.tmp 51) (.tmp 54) 33 rfl wr.heap.size 3 i0 _ 1 8 Tryz.underlying33 hi hz0 hz1 hz2 rfl (by decide) _ _ _ rfl E2.out _ _ _ ((ints (od.drop t)).map (Value.int .i64)) rfl (by rw [List.length_map, ints_len, HDr.out, Nat.mul_one]) (src_dropIf (HC.out _ H2.out.2) HLen.out HTL.out HKC.out) (ints_oneCell _ _) (by simp only [maxLen]; omega) (by omega) H2.out.2.size ?_; intro v3 w3 q3 g3; have H3 := Lib.hid (H2.out.next (Below.refl _ _) (by rw [HL2.out, List.nil_append]; exact q3) HDr.out g3); obtain ⟨a3, c3, rfl⟩ := _root_.Go.Proofs.YtikaoikladbdpaaGreat.ownShape q3; clear q3 g3)))
        go_roundw
        case rel => exact ⟨k + 1, od.take t ++ [3 + 5 * k] ++ od.drop t, by omega, by go_num, ownBase H3.out.1 HB.out.size, order_next HP.out, HB.out.trans (H3.out.2.mono HB.out.size)⟩
        case measure => simp [intOf]; omega
    · have hkn : n = k := by omega
      subst hkn
      clear hlt hk
      rcases hO.2 with ⟨_, hnil⟩ | ⟨g, cap, cur, rfl, hbg, hg, h3⟩
      · omega
      obtain ⟨M, rfl⟩ : ∃ M : Nat, many = (M : Int) := ⟨many.toNat, by omega⟩
      have hcap := (rowCells hO hlen).2
      have HCell := Lib.hid (rowCells hO hlen).1
      have HGW := Lib.hid (lt_of_block hg)
      have HLen := Lib.hid hlen
      have n0 : (n : Int) ≤ cap := by omega
      clear hO hlen hg h3 hcap
      go_upto_region 16 with (fail)
      go_cut [11] from 57 to 61 (fun o wx => ∃ (m c : Nat), m = min M n ∧ o = .slice (some ⟨g, 0, none⟩) m c ∧ m ≤ c ∧ Hid (wr = wx))
      case first =>
        by_cases hMn : M ≤ n
        · have a0 : (M : Int) ≤ n := by omega
          have a1 : (M : Int) ≤ cap := by omega
          go_wp2
          go_meet
          exact ⟨M, _, by omega, rfl, by omega, rfl⟩
        · have a0 : (n : Int) ≤ M := by omega
          have a1 : (n : Int) < M := by omega
          go_wp2
          go_meet
          exact ⟨n, _, by omega, rfl, by omega, rfl⟩
      case' rest => skip
      obtain ⟨m, c, hm, rfl, hmc, hwr⟩ := hcut
      have hwr : wr = wc := hwr
      subst hwr
      have hmn : m ≤ n := by omega
      obtain ⟨os, hos⟩ : ∃ os, od.take m = os := ⟨_, rfl⟩
      have hol : os.length = m := by rw [← hos, List.length_take, HLen.out]; omega
      have HOs := Lib.hid (show Os n os by rw [← hos]; exact (order_os HP.out).take m)
      have HOL := Lib.hid hol
      have hrd : Reads .i64 wr (some ⟨g, 0, none⟩) m (ints os) := by
        refine ⟨by rw [ints_len, hol], fun _ => ⟨g, 0, rfl, HGW.out, fun i hi => ?_⟩⟩
        rw [Nat.zero_add, HCell.out i (by omega), ← hos]
        have h1 : i < od.length := by rw [HLen.out]; omega
        have h2 : i < m := hi
        simp [ints, List.getD, h1, h2]
      have HRd := Lib.hid hrd
      have HM := Lib.hid (And.intro hm hmc)
      clear hrd hol hos HP HCell HO hm
      go_upto_region 18 with (at_make; refine wpList_make_full _ rfl _ _ 22 rfl wr.heap.size 2 j0 (.int .i64 0) 1 Tryz.underlying22 hj hy0 hy1 _ _ _ _ (3 + 5 * n) rfl rfl (by simp) (by simp) (by rw [hy2]; omega) (by unfold maxLen; omega) (Nat.le_refl _) ?_; intro w1 ho hgr; have HV := Lib.hid (VR.made ho); have HG := Lib.hid ((Below.refl wr.heap.size wr).grown hgr (Nat.le_refl _) (by simp)); clear ho hgr)
      have HW0 := Lib.hid (show LW w wr.heap.size g m os (List.replicate (3 + 5 * n) 0) w1 from ⟨HV.out, HRd.out.keep HG.out, HB.out.trans (HG.out.mono HB.out.size)⟩)
      have hGL : g ≠ wr.heap.size := Nat.ne_of_lt HGW.out
      have HBL := Lib.hid HB.out.size
      have v2 := HW0.out.1.f 2
      have vc := HW0.out.1.cell (i := 2) (by simp; omega)
      have vl := HW0.out.1.lt
      clear HV HG HRd HB
      generalize wr.heap.size = gl at *
      generalize (List.replicate (3 + 5 * n) (0 : Int)).getD 2 0 = z2 at *
      have HW1 := Lib.hid (HW0.out.store (i := 2) HBL.out hGL 50)
      have HGL := Lib.hid hGL
      clear hGL
      go_upto_region 19 with (fail)
      generalize w1.setCell ⟨gl, 2, none⟩ (.int .i64 50) = W1 at *
      have HST := Lib.hid (show ChRel w n gl g m os (.int .i64 0) W1 from ⟨0, _, Nat.zero_le _, rfl, ChK.start n os, HW1.out⟩)
      clear v2 vc vl HW0 HW1
      obtain ⟨L, hL⟩ : ∃ L, 3 + 5 * n = L := ⟨_, rfl⟩
      rw [hL]
      have HLL := Lib.hid hL
      clear hL
      go_wp2
      go_loopw [13] (fun i wr => ChRel w n gl g m os i wr) (fun i _ => m - (intOf i).toNat)
      case atStart => exact HST.out
      case round =>
        obtain ⟨k, zs, hk, rfl, hC, hW⟩ := hrel
        have HC := Lib.hid hC
        have HW := Lib.hid hW
        clear hC hW HST
        by_cases hlt : k < m
        · have k0 : (k : Int) < m := by omega
          obtain ⟨q, hq, eq⟩ := HOs.out.at (t := k) (by rw [HOL.out]; exact hlt)
          obtain ⟨a, ha⟩ : ∃ a, os.getD k 0 = a := ⟨_, rfl⟩
          have c1 := HW.out.cell HOL.out hlt
          rw [ha] at c1
          have a3 : 3 ≤ a := by omega
          have a4 : (a : Int) + 5 ≤ 3 + 5 * (n : Int) := by omega
          have HA := Lib.hid (And.intro ha (show a = 3 + 5 * q by omega))
          have HQ := Lib.hid hq
          have HLT := Lib.hid hlt
          clear eq ha hq
          go_upto_if 75 with (fail)
          go_cut [] from 74 to 92 (fun wx => Hid (LW w gl g m os (hang os k zs) wx))
          case first =>
            by_cases hk0 : k = 0
            · subst hk0
              have hdl : (1 : Int) < L := by have := HLL.out; omega
              have cz := HW.out.1.cell (i := 1) (by rw [HC.out.len]; omega)
              have cf := HW.out.1.f
              have HN := Lib.hid (HW.out.store (i := 1) HBL.out HGL.out (a : Int))
              have HH := Lib.hid (show hang os 0 zs = zs.set 1 (a : Int) by rw [← HA.out.1]; rfl)
              generalize zs.getD 1 0 = z at *
              go_wp2
              go_meet
              rw [HH.out]
              exact HN
            · obtain ⟨j, hjk⟩ : ∃ j, k = j + 1 := ⟨k - 1, by omega⟩
              obtain ⟨r, hr, er⟩ := HOs.out.at (t := j) (by rw [HOL.out]; omega)
              obtain ⟨b, hb⟩ : ∃ b, os.getD j 0 = b := ⟨_, rfl⟩
              have c2 := HW.out.cell HOL.out (show j < m by omega)
              rw [hb] at c2
              have b3 : 3 ≤ b := by omega
              have b4 : (b : Int) + 5 ≤ 3 + 5 * (n : Int) := by omega
              have cz := HW.out.1.cell (i := b + 3) (by rw [HC.out.len]; omega)
              have cf := HW.out.1.f
              have HN := Lib.hid ((HW.out.drewN (q := 1)).store (i := b + 3) HBL.out HGL.out (a : Int))
              have HH := Lib.hid (show hang os k zs = zs.set (b + 3) (a : Int) by unfold hang; rw [if_neg hk0, show k - 1 = j by omega, hb, HA.out.1])
              have hj0 : (j : Int) < m := by omega
              have hj1 : (j : Int) ≤ 100 := by omega
              have hw1 : IntKind.i64.wrap ((k : Int) - 1) = j := by rw [show (k : Int) - 1 = j by omega]; exact IntWalk.i64_in _ (by omega)
              have hk0 : ((k : Int) == 0) = false := by simp; omega
              obtain ⟨d, hd⟩ : ∃ d, b + 3 = d := ⟨_, rfl⟩
              rw [hd] at cz HN HH
              have hw2 : IntKind.i64.wrap ((b : Int) + 3) = (d : Int) := by rw [show (b : Int) + 3 = d by omega]; exact IntWalk.i64_in _ (by omega)
              have hdl : (d : Int) < L := by have := HLL.out; omega
              generalize zs.getD d 0 = z at *
              clear hb er hr hjk hd b3 b4
              go_wp2
              go_still_tail 12, (by kernel_rfl)
              go_wp2
              go_meet
              rw [HH.out]
              exact HN
          case' rest => skip
          have HW1 := Lib.hid hcut
          clear HW c1 hcut
          have HC1 := Lib.hid (HC.out.go (by omega) HOs.out (by rw [HOL.out]; exact HLT.out))
          have hlen1 : (hang os k zs).length = L := by rw [hang_len, HC.out.len]; exact HLL.out
          have c1 := HW1.out.cell HOL.out HLT.out
          rw [HA.out.1] at c1 HC1
          obtain ⟨d, hd⟩ : ∃ d, a + 1 = d := ⟨_, rfl⟩
          have hdl : (d : Int) < L := by have := HLL.out; omega
          have hw1 : IntKind.i64.wrap ((a : Int) + 1) = (d : Int) := by rw [show (a : Int) + 1 = d by omega]; exact IntWalk.i64_in _ (by omega)
          have hw1' : (a : Int) + 1 = (d : Int) := by omega
          rw [hd] at HC1
          have cz := HW1.out.1.cell (i := d) (by omega)
          have cf := HW1.out.1.f
          have HN := Lib.hid (HW1.out.store (i := d) HBL.out HGL.out 1)
          generalize (hang os k zs).getD d 0 = z at *
          generalize (hang os k zs).set d 1 = zs1 at *
          clear hd hlen1 HW1
          go_upto_if 103 with (fail)
          generalize wc.setCell ⟨gl, d, none⟩ (.int .i64 1) = W3 at *
          clear cz cf c1 hw1 hw1' hdl
          by_cases hc : k < nc
          · have hzl := HX.out.1.1
            obtain ⟨bb, off, rfl, lb, hcc⟩ := HX.out.1.2 (by omega)
            have cb := (HN.out.2.2.cell (p := ⟨bb, off + k, none⟩) lb).trans (hcc k hc)
            have hq2 := HX.out.2.2.2 (xs.getD k 0) (by simp [List.getD, hzl, hc])
            clear hcc
            generalize xs.getD k 0 = y at *
            obtain ⟨y0, y1⟩ := hq2
            have d0 : (k : Int) < nc := by omega
            have c1 := HN.out.cell HOL.out HLT.out
            rw [HA.out.1] at c1
            obtain ⟨d2, hd2⟩ : ∃ d, a + 2 = d := ⟨_, rfl⟩
            have hdl : (d2 : Int) < L := by have := HLL.out; omega
            have hw1 : IntKind.i64.wrap ((a : Int) + 2) = (d2 : Int) := by rw [show (a : Int) + 2 = d2 by omega]; exact IntWalk.i64_in _ (by omega)
            have cz := HN.out.1.cell (i := d2) (by have := HC1.out.len; have := HLL.out; omega)
            have cf := HN.out.1.f
            have HN2 := Lib.hid ((HN.out.drewN (q := 1)).store (i := d2) HBL.out HGL.out (y % 60))
            have HC2 := Lib.hid (HC1.out.age (g := y % 60) (by omega) HOs.out (by rw [HOL.out]; exact HLT.out) HQ.out (by omega) (by omega))
            rw [show 3 + 5 * q + 2 = d2 by have := HA.out.2; omega] at HC2
            generalize zs1.getD d2 0 = z3 at *
            have hy1 : IntKind.u8.wrap (y % 60) = y % 60 := IntWalk.u8_in _ (by omega)
            clear hd2 a4 lb
            go_wp2
            go_still_tail 13, (by kernel_rfl)
            go_wp2
            go_roundw
            case rel => exact ⟨k + 1, _, HLT.out, by go_num, HC2.out, HN2.out⟩
            case measure => have := HLT.out; simp [intOf]; omega
          · have d0 : (nc : Int) ≤ k := by omega
            go_wp2
            go_roundw
            case rel => exact ⟨k + 1, _, HLT.out, by go_num, HC1.out, HN.out⟩
            case measure => have := HLT.out; simp [intOf]; omega
        · have hkm : m = k := by omega
          subst hkm
          have HC3 := Lib.hid (show ChK n os os.length zs by rw [HOL.out]; exact HC.out)
          clear hlt hk HC
          go_wp2
          go_ret2
          exact ⟨n, os, zs, gl, g, c, by rw [HLL.out, HOL.out]; rfl, ⟨hn1, hn9⟩, by rw [HOL.out, Int.toNat_natCast]; exact HM.out.1, HOs.out, HC3.out, by rw [HOL.out]; exact HW.out, HBL.out, HGL.out, by rw [HOL.out]; exact HM.out.2⟩

end Go.Proofs.YtikaoikladbdpaaGreat.M2
