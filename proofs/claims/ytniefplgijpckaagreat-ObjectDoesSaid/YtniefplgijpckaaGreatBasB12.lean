/-
  What reaperlaw04.Ops makes of bytes. Conditions: bytes. What the texts on the skip list and on the coin share: new blocks, a bool's size, an int's size. Conditions: none. A row of what is told, in a block of one's own: codes and values. Conditions: none; no Go function is looked at here. Literals of operations, of results and of numbers. Conditions: none. What is told is the same. Conditions: lists of at most a thousand. An operation in a block of its own. Conditions: none. Rows of numbers in blocks of one's own. Conditions: none. The base of stage 12's families. Conditions: none.
-/
import Derived.Test.YtniefplgijpckaaGreatBasA12
namespace Go.Proofs.YtniefplgijpckaaGreat
open Go.RowKit

/-- The operation of a byte. -/
def opOf (kinds c : Int) : Int × Int := (1 + c % kinds, c / 8 - 9)
/-- The operations of bytes. -/
def opsL (kinds : Int) (xs : List Int) : List (Int × Int) := (xs.take 80).map (opOf kinds)
/-- Their cells. -/
def flatO (os : List (Int × Int)) : List Value := os.flatMap fun o => [.int .u8 o.1, .int .i32 o.2]
theorem flatO_length (os : List (Int × Int)) : (flatO os).length = os.length * 2 := by
  induction os with
  | nil => rfl
  | cons o os ih => simp only [flatO, List.flatMap_cons, List.length_append, List.length_cons, List.length_nil] at ih ⊢; omega
theorem flatO_snoc (os : List (Int × Int)) (o : Int × Int) : flatO (os ++ [o]) = flatO os ++ [.int .u8 o.1, .int .i32 o.2] := by simp [flatO]
theorem flatO_at (os : List (Int × Int)) (i : Nat) (hi : i < os.length) : (flatO os)[i * 2]? = some (.int .u8 (os.getD i (0, 0)).1) ∧ (flatO os)[i * 2 + 1]? = some (.int .i32 (os.getD i (0, 0)).2) := by
  induction os generalizing i with
  | nil => simp at hi
  | cons o os ih =>
    cases i with
    | zero => simp [flatO]
    | succ i =>
      have := ih i (by simpa using hi)
      rw [show (i + 1) * 2 = i * 2 + 2 by omega, show i * 2 + 2 + 1 = i * 2 + 1 + 2 by omega]
      simpa [flatO, List.flatMap_cons] using this

theorem infoOp : (Tryz.prog.info? 49).map (fun i => (i.zero, i.size, i.bytes)) = some (some (.agg #[.int .u8 0, .int .i32 0]), 2, 8) := by kernel_rfl

theorem opsAt_own {w : World} {base n : Nat} {v : Value} {os : List (Int × Int)} (h : w.ownsRow base 49 2 v n (flatO os)) : ∃ ao cap, v = .slice ao n cap ∧ OpsAt w ao n os ∧ (∀ a, ao = some a → base ≤ a.block) := by
  have hl : os.length = n := by have := h.1; rw [flatO_length] at this; omega
  have hcs := fun g hg => h.cells (g := g) hg
  rcases h.2 with ⟨rfl, rfl⟩ | ⟨g, cap, cur, rfl, hb, hg, hle, _⟩
  · exact ⟨_, _, rfl, ⟨hl, fun hp => by omega⟩, fun _ h => by simp at h⟩
  · refine ⟨_, _, rfl, ⟨hl, fun hp => ⟨g, 0, rfl, lt_of_block hg, fun i hi => ?_⟩⟩, fun a ha => by injection ha with ha; subst ha; exact hb⟩
    obtain ⟨h1, h2⟩ := flatO_at os i (by omega)
    have k1 := hcs g rfl _ _ h1
    have k2 := hcs g rfl _ _ h2
    rw [Addr.add_lit] at k1 k2
    exact ⟨k1, by rw [Nat.add_assoc]; exact k2⟩

/-- Operations in new memory. -/
def OpsNew (w : World) (os : List (Int × Int)) (e : Ending) (w' : World) : Prop :=
  ∃ ao cap, e = .returned (.slice ao os.length cap) ∧ OpsAt w' ao os.length os ∧ (∀ a, ao = some a → w.heap.size ≤ a.block) ∧ Below w.heap.size w w'

/-- The first k operations in a row of one's own. -/
def Opsd (w : World) (kinds : Int) (xs : List Int) (k : Nat) (v : Value) (wr : World) : Prop := wr.ownsRow w.heap.size 49 2 v k (flatO ((xs.take k).map (opOf kinds))) ∧ Below w.heap.size w wr

theorem Opsd.drew {w wr : World} {kinds : Int} {xs : List Int} {k : Nat} {v : Value} (h : Opsd w kinds xs k v wr) : Opsd w kinds xs k v wr.drew := ⟨h.1.drew, below_drewN h.2 1⟩
theorem Opsd.next {w wr w1 : World} {kinds : Int} {xs : List Int} {k : Nat} {v v' : Value} {o : Obj} (h : Opsd w kinds xs k v wr) (hk : k < xs.length)
    (hown : w1.ownsRow w.heap.size 49 2 v' (k + 1) (flatO ((xs.take k).map (opOf kinds)) ++ [.int .u8 (opOf kinds (xs.getD k 0)).1, .int .i32 (opOf kinds (xs.getD k 0)).2])) (hg : (wr.alloc o).grownBy w1 v.ownBlock) : Opsd w kinds xs (k + 1) v' w1 := by
  refine ⟨?_, (h.2.alloc h.2.size o).grown hg (Nat.le_trans h.2.size (by simp)) (fun k e => (h.1.lt k e).1)⟩
  rw [show xs.take (k + 1) = xs.take k ++ [xs.getD k 0] by rw [List.take_succ_eq_append_getElem hk]; simp [List.getD, hk], List.map_append, List.map_cons, List.map_nil, flatO_snoc]
  exact hown

theorem byte_at {xs : List Int} (h : ∀ x ∈ xs, 0 ≤ x ∧ x ≤ 255) (i : Nat) : 0 ≤ xs.getD i 0 ∧ xs.getD i 0 ≤ 255 := by
  rcases Nat.lt_or_ge i xs.length with h1 | h1
  · simpa [List.getD, h1] using h xs[i] (List.getElem_mem h1)
  · simp [List.getD, h1]

theorem op_cells (w : World) (a b : Int) (t : TypeId) : ∀ j u, ([.int .u8 a, .int .i32 b] : List Value)[j]? = some u → (w.alloc (.cells #[.int .u8 a, .int .i32 b] t)).cell? ((⟨w.heap.size, 0, none⟩ : Addr).add j) = some u := by
  intro j u hu
  match j with
  | 0 => simp at hu; subst hu; go_simp
  | 1 => simp at hu; subst hu; go_simp
  | j + 2 => simp at hu
theorem op_one (a b : Int) : ∀ u ∈ ([.int .u8 a, .int .i32 b] : List Value), u.oneCell' = true := by
  intro u hu
  simp at hu
  rcases hu with rfl | rfl <;> rfl

theorem opsDone {w wr : World} {kinds : Int} {xs : List Int} {k : Nat} {v : Value} (h : Opsd w kinds xs k v wr) (hk : k = min xs.length 80) : OpsNew w (opsL kinds xs) (.returned v) wr := by
  have hl : (opsL kinds xs).length = k := by simp [opsL]; omega
  have e : (xs.take k).map (opOf kinds) = opsL kinds xs := by
    unfold opsL
    rcases Nat.le_total xs.length 80 with h1 | h1
    · rw [List.take_of_length_le (by omega), List.take_of_length_le h1]
    · rw [hk, Nat.min_eq_right h1]
  have h1 := h.1
  rw [e] at h1
  obtain ⟨ao, cap, rfl, h2, h3⟩ := opsAt_own h1
  refine ⟨ao, cap, by rw [hl], by rw [hl]; exact h2, h3, h.2⟩

set_option maxRecDepth 100000 in
set_option maxHeartbeats 4000000 in
theorem opsAny (w : World) (ao : Option Addr) (len cap : Nat) (xs : List Int) (kinds : Int) (hr : Reads .u8 w ao len xs) (hby : ∀ x ∈ xs, 0 ≤ x ∧ x ≤ 255) (hlen : len ≤ 140737488351232) (k0 : 1 ≤ kinds) (k1 : kinds ≤ 9) :
    Calls Tryz.prog 21 #[.slice ao len cap, .int .u8 kinds] w (OpsNew w (opsL kinds xs)) := by
  obtain ⟨i0, hi, hz0, hz1, hz2⟩ := info_parts infoOp
  have HR := Lib.hid hr
  have HY := Lib.hid hby
  clear hr hby
  go_enter Tryz.func21, Tryz.ntmps21
  go_wp2
  have HS := Lib.hid (show Opsd w kinds xs 0 (.slice none 0 0) w from ⟨by simpa [flatO] using World.ownsRow_nil w w.heap.size 49 2, Below.refl _ w⟩)
  go_loopw [5, 6] (fun v i wr => ∃ k : Nat, k ≤ len ∧ k ≤ 80 ∧ i = .int .i64 k ∧ Opsd w kinds xs k v wr) (fun _ i _ => len - (intOf i).toNat)
  case atStart => exact ⟨0, Nat.zero_le _, Nat.zero_le _, rfl, HS.out⟩
  case round =>
    obtain ⟨k, hk, hk8, rfl, hpk⟩ := hrel
    have HK := Lib.hid hpk
    clear hpk HS
    by_cases hlt : k < len
    · by_cases h80 : k < 80
      · obtain ⟨b, off, rfl, bl, hc⟩ := (HR.out.keep HK.out.2).2 (by omega)
        have c := hc k hlt
        have hb := byte_at HY.out k
        clear hc
        have i1 : (k : Int) < len := by omega
        go_upto_region 5 with (fail)
        have HD := Lib.hid HK.out.drew
        have HL := Lib.hid (show k < xs.length by rw [HR.out.1]; exact hlt)
        clear HK
        obtain ⟨y, hy⟩ : ∃ y, xs.getD k 0 = y := ⟨_, rfl⟩
        rw [hy] at c hb
        have HYY := Lib.hid hy
        clear hy
        have HO := Lib.hid (show opOf kinds y = (1 + y % kinds, y / 8 - 9) from rfl)
        obtain ⟨y0, y1⟩ := hb
        have m0 := Int.emod_nonneg y (show kinds ≠ 0 by omega)
        have m1 := Int.emod_lt_of_pos y (show 0 < kinds by omega)
        have n0 : ¬ kinds = 0 := by omega
        have e1 : y.tmod kinds = y % kinds := Int.tmod_eq_emod_of_nonneg y0
        have e2 : IntKind.u8.wrap (y % kinds) = y % kinds := by rw [IntKind.wrap_u8]; omega
        have e3 : IntKind.u8.wrap (1 + y % kinds) = 1 + y % kinds := by rw [IntKind.wrap_u8]; omega
        have e4 : y.tdiv 8 = y / 8 := Int.tdiv_eq_ediv_of_nonneg y0
        have e5 : IntKind.u8.wrap (y / 8) = y / 8 := by rw [IntKind.wrap_u8]; omega
        have e6 : IntKind.i32.wrap (y / 8) = y / 8 := by rw [IntKind.wrap_i32]; omega
        have e7 : IntKind.i32.wrap (y / 8 - 9) = y / 8 - 9 := by rw [IntKind.wrap_i32]; omega
        generalize y / 8 = q at *
        generalize y % kinds = r at *
        go_region_law (refine step_append_own _ rfl _ _ 36 rfl w.heap.size 49 i0 _ 2 8 Tryz.underlying36 hi hz0 hz1 hz2 rfl (by decide) _ _ _ rfl (HD.out.1.alloc _) ⟨wr.heap.size, 0, none⟩ 1 1 [.int .u8 (1 + r), .int .i32 (q - 9)] rfl rfl (op_cells wr.drew _ _ _) (op_one _ _) (by simp only [maxLen]; omega) (by omega) (Nat.le_trans HD.out.2.size (by simp)) ?_; intro v' w4 hown' hgrow; have HO4 := Lib.hid hown'; have HG4 := Lib.hid hgrow; clear hown' hgrow)
        all_goals
          clear e1 e2 e3 e4 e5 e6 e7
          go_wp2
          go_roundw
          case rel => exact ⟨k + 1, by omega, by omega, by go_num, HD.out.next HL.out (by rw [HYY.out, HO.out]; exact HO4.out) HG4.out⟩
          case measure => simp [intOf]; omega
      · obtain rfl : k = 80 := by omega
        have HF := Lib.hid HK.out
        clear HK
        go_wp2
        go_ret
        exact opsDone HF.out (by rw [HR.out.1]; omega)
    · obtain rfl : k = len := by omega
      have HF := Lib.hid HK.out
      clear HK
      go_wp2
      go_ret
      exact opsDone HF.out (by rw [HR.out.1]; omega)

theorem take_op (os : List (Int × Int)) (k : Nat) (h : k < os.length) : os.take (k + 1) = os.take k ++ [os.getD k (0, 0)] := by
  rw [List.take_succ_eq_append_getElem h]; simp [List.getD, h]

theorem opsL_ok (kinds : Int) (xs : List Int) (h : ∀ x ∈ xs, 0 ≤ x ∧ x ≤ 255) (k0 : 1 ≤ kinds) (k1 : kinds ≤ 9) : ∀ o ∈ opsL kinds xs, OpOk o := by
  intro o ho
  simp only [opsL, List.mem_map] at ho
  obtain ⟨x, hx, rfl⟩ := ho
  have hb := h x (List.mem_of_mem_take hx)
  have m0 := Int.emod_nonneg x (show kinds ≠ 0 by omega)
  have m1 := Int.emod_lt_of_pos x (show 0 < kinds by omega)
  simp only [OpOk, opOf]
  omega
theorem opsL_len (kinds : Int) (xs : List Int) : (opsL kinds xs).length ≤ 80 := by simp [opsL]; omega

end Go.Proofs.YtniefplgijpckaaGreat
namespace Go.Proofs.YtniefplgijpckaaGreat
open Go.RowKit

theorem infoBool : (Tryz.prog.info? 4).map (fun i => (i.zero, i.size, i.bytes)) = some (some (.bool false), 1, 1) := by kernel_rfl
theorem infoInt : (Tryz.prog.info? 3).map (fun i => (i.zero, i.size, i.bytes)) = some (some (.int .i64 0), 1, 8) := by kernel_rfl

/-- The blocks that are new. -/
def New (w w' : World) : Nat → Prop := fun g => w.heap.size ≤ g ∧ g < w'.heap.size
theorem New.apart {w w' : World} {F : Nat → Prop} (hF : ∀ g, F g → g < w.heap.size) : Apart F (New w w') := fun g h1 h2 => by have := hF g h1; have := h2.1; omega

end Go.Proofs.YtniefplgijpckaaGreat
namespace Go.Proofs.YtniefplgijpckaaGreat
open Go.RowKit

/-- A row of what is told, in a block of its own. -/
def RRow (w : World) (b : Nat) (rs : List (Int × Int)) : Prop := w.heap[b]? = some (.cells (flatO rs).toArray 53 (0, 0))
theorem flatO_set (rs : List (Int × Int)) (i : Nat) (c x : Int) : ((flatO rs).set (i * 2) (.int .u8 c)).set (i * 2 + 1) (.int .i32 x) = flatO (rs.set i (c, x)) := by
  induction rs generalizing i with
  | nil => rfl
  | cons o os ih =>
    cases i with
    | zero => simp [flatO]
    | succ i =>
      have := ih i
      rw [show (i + 1) * 2 = i * 2 + 2 by omega, show i * 2 + 2 + 1 = i * 2 + 1 + 2 by omega]
      simpa [flatO, List.flatMap_cons] using this
theorem flatO_set1 (rs : List (Int × Int)) (i : Nat) (c : Int) : (flatO rs).set (i * 2) (.int .u8 c) = flatO (rs.set i (c, (rs.getD i (0, 0)).2)) := by
  induction rs generalizing i with
  | nil => rfl
  | cons o os ih =>
    cases i with
    | zero => simp [flatO]
    | succ i =>
      have := ih i
      rw [show (i + 1) * 2 = i * 2 + 2 by omega]
      simpa [flatO, List.flatMap_cons] using this

section
variable {w w' : World} {b i : Nat} {rs : List (Int × Int)}
theorem RRow.lt (h : RRow w b rs) : b < w.heap.size := lt_of_block h
theorem RRow.keep (h : RRow w b rs) (hb : w'.heap[b]? = w.heap[b]?) : RRow w' b rs := hb.trans h
theorem RRow.below (h : RRow w b rs) (hb : Below w.heap.size w w') : RRow w' b rs := (hb.block b h.lt).trans h
theorem RRow.free (h : RRow w b rs) (j : Nat) : w.frozen? ⟨b, j, none⟩ = false := by unfold RRow at h; simp [World.frozen?, h]
theorem RRow.cells (h : RRow w b rs) (hi : i < rs.length) : w.cell? ⟨b, i * 2, none⟩ = some (.int .u8 (rs.getD i (0, 0)).1) ∧ w.cell? ⟨b, i * 2 + 1, none⟩ = some (.int .i32 (rs.getD i (0, 0)).2) := by
  obtain ⟨h1, h2⟩ := flatO_at rs i hi
  unfold RRow at h
  simp [World.cell?, h, h1, h2]
theorem RRow.set2 (h : RRow w b rs) (i : Nat) (c x : Int) : RRow ((w.setCell ⟨b, i * 2, none⟩ (.int .u8 c)).setCell ⟨b, i * 2 + 1, none⟩ (.int .i32 x)) b (rs.set i (c, x)) := by
  unfold RRow at h ⊢
  rw [heap_setCell_same _ b _ _ _ _ (heap_setCell_same w b _ _ _ _ h), ← flatO_set]
  simp
theorem RRow.set1 (h : RRow w b rs) (i : Nat) (c : Int) : RRow (w.setCell ⟨b, i * 2, none⟩ (.int .u8 c)) b (rs.set i (c, (rs.getD i (0, 0)).2)) := by
  unfold RRow at h ⊢
  rw [heap_setCell_same w b _ _ _ _ h, ← flatO_set1]
  simp
theorem RRow.ops (h : RRow w b rs) : OpsAt w (some ⟨b, 0, none⟩) rs.length rs := ⟨rfl, fun _ => ⟨b, 0, rfl, h.lt, fun i hi => by simpa using h.cells hi⟩⟩
end


theorem flatO_setV (rs : List (Int × Int)) (i : Nat) (x : Int) : (flatO rs).set (i * 2 + 1) (.int .i32 x) = flatO (rs.set i ((rs.getD i (0, 0)).1, x)) := by
  induction rs generalizing i with
  | nil => rfl
  | cons o os ih =>
    cases i with
    | zero => simp [flatO]
    | succ i =>
      have := ih i
      rw [show (i + 1) * 2 + 1 = i * 2 + 1 + 2 by omega]
      simpa [flatO, List.flatMap_cons] using this
theorem RRow.setV {w : World} {b : Nat} {rs : List (Int × Int)} (h : RRow w b rs) (i : Nat) (x : Int) : RRow (w.setCell ⟨b, i * 2 + 1, none⟩ (.int .i32 x)) b (rs.set i ((rs.getD i (0, 0)).1, x)) := by
  unfold RRow at h ⊢
  rw [heap_setCell_same w b _ _ _ _ h, ← flatO_setV]
  simp

theorem infoRes : (Tryz.prog.info? 53).map (fun i => (i.zero, i.size, i.bytes)) = some (some (.agg #[.int .u8 0, .int .i32 0]), 2, 8) := by kernel_rfl

theorem made_two (n : Nat) : (madeCells (Value.agg #[.int .u8 0, .int .i32 0]).cells (n * 2)).toList = flatO (List.replicate n (0, 0)) := by
  apply List.ext_getElem?
  intro j
  by_cases hj : j < n * 2
  · have h2 := flatO_at (List.replicate n (0, 0)) (j / 2) (by simp; omega)
    have hd : (List.replicate n ((0, 0) : Int × Int)).getD (j / 2) (0, 0) = (0, 0) := by simp [List.getD, show j / 2 < n by omega]
    rw [hd] at h2
    have e : (madeCells (Value.agg #[.int .u8 0, .int .i32 0]).cells (n * 2)).toList[j]? = some (if j % 2 = 0 then Value.int .u8 0 else .int .i32 0) := by
      simp only [madeCells, Value.cells]
      rcases Nat.mod_two_eq_zero_or_one j with h | h <;> simp [hj, h]
    rw [e]
    rcases Nat.mod_two_eq_zero_or_one j with h | h
    · rw [if_pos h, show j = j / 2 * 2 by omega]; exact h2.1.symm
    · rw [if_neg (by omega), show j = j / 2 * 2 + 1 by omega]; exact h2.2.symm
  · rw [List.getElem?_eq_none (by simp [madeCells]; omega), List.getElem?_eq_none (by rw [flatO_length]; simp; omega)]
theorem madeRes {w w1 : World} {n : Nat} (ho : w1.ownsRow w.heap.size 53 2 (.slice (some ⟨w.heap.size, 0, none⟩) n n) n (madeCells (Value.agg #[.int .u8 0, .int .i32 0]).cells (n * 2)).toList) (hg : w.grownBy w1 none) :
    RRow w1 w.heap.size (List.replicate n (0, 0)) ∧ Below w.heap.size w w1 := by
  refine ⟨?_, (Below.refl _ _).grown hg (Nat.le_refl _) (by simp)⟩
  rw [made_two] at ho
  rcases ho.2 with ⟨h', _⟩ | ⟨g', cap', cur, h', _, hgg, _, _, hcs, htake⟩
  · simp at h'
  · simp only [Value.slice.injEq, Option.some.injEq, Addr.mk.injEq, and_true, true_and] at h'
    obtain ⟨rfl, rfl⟩ := h'
    unfold RRow
    rw [hgg, ← htake, List.take_of_length_le (by simp; omega)]


end Go.Proofs.YtniefplgijpckaaGreat
namespace Go.Proofs.YtniefplgijpckaaGreat
open Go.RowKit Go.Lib

/-- A literal of operations. -/
theorem opsLit3 (w : World) (a b c d e f : Int) : OpsAt (w.alloc (.cells #[.int .u8 a, .int .i32 b, .int .u8 c, .int .i32 d, .int .u8 e, .int .i32 f] 49)) (some ⟨w.heap.size, 0, none⟩) 3 [(a, b), (c, d), (e, f)] :=
  ⟨rfl, fun _ => ⟨w.heap.size, 0, rfl, by simp, fun i hi => by
    match i, hi with
    | 0, _ => exact ⟨by go_simp, by go_simp⟩
    | 1, _ => exact ⟨by go_simp, by go_simp⟩
    | 2, _ => exact ⟨by go_simp, by go_simp⟩⟩⟩
theorem opsLit2 (w : World) (a b c d : Int) : OpsAt (w.alloc (.cells #[.int .u8 a, .int .i32 b, .int .u8 c, .int .i32 d] 49)) (some ⟨w.heap.size, 0, none⟩) 2 [(a, b), (c, d)] :=
  ⟨rfl, fun _ => ⟨w.heap.size, 0, rfl, by simp, fun i hi => by
    match i, hi with
    | 0, _ => exact ⟨by go_simp, by go_simp⟩
    | 1, _ => exact ⟨by go_simp, by go_simp⟩⟩⟩
theorem readsLit3 (w : World) (k : IntKind) (t : TypeId) (a b c : Int) : Reads k (w.alloc (.cells #[.int k a, .int k b, .int k c] t)) (some ⟨w.heap.size, 0, none⟩) 3 [a, b, c] :=
  ⟨rfl, fun _ => ⟨w.heap.size, 0, rfl, by simp, fun i hi => by
    match i, hi with
    | 0, _ => go_simp
    | 1, _ => go_simp
    | 2, _ => go_simp⟩⟩

/-- A literal of operations. -/
theorem resLit3 (w : World) (a b c d e f : Int) : OpsAt (w.alloc (.cells #[.int .u8 a, .int .i32 b, .int .u8 c, .int .i32 d, .int .u8 e, .int .i32 f] 53)) (some ⟨w.heap.size, 0, none⟩) 3 [(a, b), (c, d), (e, f)] :=
  ⟨rfl, fun _ => ⟨w.heap.size, 0, rfl, by simp, fun i hi => by
    match i, hi with
    | 0, _ => exact ⟨by go_simp, by go_simp⟩
    | 1, _ => exact ⟨by go_simp, by go_simp⟩
    | 2, _ => exact ⟨by go_simp, by go_simp⟩⟩⟩

end Go.Proofs.YtniefplgijpckaaGreat
namespace Go.Proofs.YtniefplgijpckaaGreat
open Go.RowKit Go.Lib

set_option maxRecDepth 100000 in
set_option maxHeartbeats 1600000 in
theorem toldEq (w : World) (a b : Option Addr) (n c d : Nat) (rs : List (Int × Int)) (ha : OpsAt w a n rs) (hb : OpsAt w b n rs) (hl : n ≤ 1000) :
    Calls Tryz.prog 17 #[.slice a n c, .slice b n d] w fun e w' => e = .returned (.bool true) ∧ Below w.heap.size w w' := by
  have hq := eqSelf
  have HA := Lib.hid ha
  have HB := Lib.hid hb
  clear ha hb
  go_enter Tryz.func17, Tryz.ntmps17
  go_wp2
  go_loopw [5] (fun i wr => ∃ k : Nat, k ≤ n ∧ i = .int .i64 k ∧ Below w.heap.size w wr) (fun i _ => n - (intOf i).toNat)
  case atStart => exact ⟨0, Nat.zero_le _, rfl, Below.refl _ _⟩
  case round =>
    obtain ⟨k, hk, rfl, hbe⟩ := hrel
    have HE := Lib.hid hbe
    by_cases hlt : k < n
    · obtain ⟨b1, o1, rfl, l1, h1⟩ := (HA.out.keep hbe).2 (by omega)
      obtain ⟨b2, o2, rfl, l2, h2⟩ := (HB.out.keep hbe).2 (by omega)
      obtain ⟨c1, c2⟩ := h1 k hlt
      obtain ⟨c3, c4⟩ := h2 k hlt
      have i0 : (k : Int) < n := by omega
      clear h1 h2 hbe
      generalize (rs.getD k (0, 0)).1 = e1 at *
      generalize (rs.getD k (0, 0)).2 = e2 at *
      go_wp2
      go_quiet (fail)
      go_wp2
      go_roundw
      case rel => exact ⟨k + 1, by omega, by go_num, below_drewN HE.out _⟩
      case measure => simp [intOf]; omega
    · clear hbe
      go_wp2
      go_ret
      exact ⟨rfl, HE.out⟩


end Go.Proofs.YtniefplgijpckaaGreat
namespace Go.Proofs.YtniefplgijpckaaGreat
open Go.RowKit

/-- A kind and a value in a block of their own. -/
def OBox (w : World) (g : Nat) (k v : Int) : Prop := w.heap[g]? = some (.cells #[.int .u8 k, .int .i32 v] 49 (0, 0))
section
variable {w w' : World} {g : Nat} {k v : Int}
theorem OBox.c0 (h : OBox w g k v) : w.cell? ⟨g, 0, none⟩ = some (.int .u8 k) := by unfold OBox at h; simp [World.cell?, h]
theorem OBox.c1 (h : OBox w g k v) : w.cell? ⟨g, 1, none⟩ = some (.int .i32 v) := by unfold OBox at h; simp [World.cell?, h]
theorem OBox.f (h : OBox w g k v) (j : Nat) : w.frozen? ⟨g, j, none⟩ = false := by unfold OBox at h; simp [World.frozen?, h]
theorem OBox.lt (h : OBox w g k v) : g < w.heap.size := lt_of_block h
theorem OBox.set0 (h : OBox w g k v) (k' : Int) : OBox (w.setCell ⟨g, 0, none⟩ (.int .u8 k')) g k' v := by
  unfold OBox at h ⊢
  rw [heap_setCell_same w g 0 _ _ _ h]
  rfl
theorem OBox.keep (h : OBox w g k v) (hb : Below w.heap.size w w') : OBox w' g k v := (hb.block g h.lt).trans h
theorem OBox.other (h : OBox w g k v) {p : Addr} (hp : p.block ≠ g) (u : Value) : OBox (w.setCell p u) g k v := by
  have hw : Wrote (fun q => q = p.block) w (w.setCell p u) := (Wrote.refl (fun q => q = p.block) w).setCell (q := p) (.inr rfl) u
  exact (hw.block g h.lt (fun e => hp e.symm)).trans h
theorem OBox.new (w : World) (k v : Int) : OBox (w.alloc (.cells #[.int .u8 k, .int .i32 v] 49)) w.heap.size k v := heap_alloc_new w _
theorem OBox.alloc (h : OBox w g k v) (o : Obj) : OBox (w.alloc o) g k v := (Below.heap_alloc _ _ _ h.lt).trans h
end

end Go.Proofs.YtniefplgijpckaaGreat
namespace Go.Proofs.YtniefplgijpckaaGreat
open Go.RowKit Go.Lib

/-- Numbers in a block of their own. -/
def Rw (w : World) (b : Nat) (k : IntKind) (t : TypeId) (xs : List Int) : Prop := w.heap[b]? = some (.cells (xs.map (Value.int k)).toArray t (0, 0))
section
variable {w w' : World} {b : Nat} {k : IntKind} {t : TypeId} {xs : List Int}
theorem Rw.lt (h : Rw w b k t xs) : b < w.heap.size := lt_of_block h
theorem Rw.keep (h : Rw w b k t xs) (hb : w'.heap[b]? = w.heap[b]?) : Rw w' b k t xs := hb.trans h
theorem Rw.below (h : Rw w b k t xs) (hb : Below w.heap.size w w') : Rw w' b k t xs := h.keep (hb.block b h.lt)
theorem Rw.free (h : Rw w b k t xs) (j : Nat) : w.frozen? ⟨b, j, none⟩ = false := by unfold Rw at h; simp [World.frozen?, h]
theorem Rw.cell (h : Rw w b k t xs) {i : Nat} (hi : i < xs.length) : w.cell? ⟨b, i, none⟩ = some (.int k (xs.getD i 0)) := by
  unfold Rw at h
  simp [World.cell?, h, List.getD, hi]
theorem Rw.set (h : Rw w b k t xs) (i : Nat) (x : Int) : Rw (w.setCell ⟨b, i, none⟩ (.int k x)) b k t (xs.set i x) := by
  unfold Rw at h ⊢
  rw [heap_setCell_same w b i _ _ _ h]
  simp
theorem Rw.reads (h : Rw w b k t xs) {n : Nat} (hn : xs.length = n) : Reads k w (some ⟨b, 0, none⟩) n xs := ⟨hn, fun _ => ⟨b, 0, rfl, h.lt, fun i hi => by rw [Nat.zero_add]; exact h.cell (by omega)⟩⟩
end
theorem madeRow {w w1 : World} {n : Nat} {k : IntKind} {t : TypeId} (ho : w1.ownsRow w.heap.size t 1 (.slice (some ⟨w.heap.size, 0, none⟩) n n) n (madeCells (Value.int k 0).cells (n * 1)).toList) (hg : w.grownBy w1 none) :
    Rw w1 w.heap.size k t (List.replicate n 0) ∧ Below w.heap.size w w1 := by
  have hr := rowWhole ho
  rw [show (Value.int k 0).cells = #[Value.int k 0] from rfl, Nat.mul_one, toList_madeCells_one] at hr
  exact ⟨by unfold Rw; rw [hr]; simp, (Below.refl _ _).grown hg (Nat.le_refl _) (by simp)⟩


end Go.Proofs.YtniefplgijpckaaGreat
namespace Go.Proofs.YtniefplgijpckaaGreat
end Go.Proofs.YtniefplgijpckaaGreat
