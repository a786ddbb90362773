/-
  What reaperlaw04.Ops makes of bytes. Conditions: bytes.
-/
import Derived.Test.YtafocplahmfghaaArgs8
namespace Go.Proofs.Ytafocplahmfghaa
open Go.RowKit

/-- The operation of a byte. -/
def opOf (kinds c : Int) : Int × Int := (1 + c % kinds, c / 8 - 9)
/-- The operations of bytes. -/
def opsL (kinds : Int) (xs : List Int) : List (Int × Int) := (xs.take 80).map (opOf kinds)
/-- Their cells. -/
def flatO (os : List (Int × Int)) : List Value := os.flatMap fun o => [.int .u8 o.1, .int .i32 o.2]
theorem flatO_length (os : List (Int × Int)) : (flatO os).length = os.length * 2 := by
  induction os with
  | nil => rfl
  | cons o os ih => simp only [flatO, List.flatMap_cons, List.length_append, List.length_cons, List.length_nil] at ih ⊢; omega
theorem flatO_snoc (os : List (Int × Int)) (o : Int × Int) : flatO (os ++ [o]) = flatO os ++ [.int .u8 o.1, .int .i32 o.2] := by simp [flatO]
theorem flatO_at (os : List (Int × Int)) (i : Nat) (hi : i < os.length) : (flatO os)[i * 2]? = some (.int .u8 (os.getD i (0, 0)).1) ∧ (flatO os)[i * 2 + 1]? = some (.int .i32 (os.getD i (0, 0)).2) := by
  induction os generalizing i with
  | nil => simp at hi
  | cons o os ih =>
    cases i with
    | zero => simp [flatO]
    | succ i =>
      have := ih i (by simpa using hi)
      rw [show (i + 1) * 2 = i * 2 + 2 by omega, show i * 2 + 2 + 1 = i * 2 + 1 + 2 by omega]
      simpa [flatO, List.flatMap_cons] using this

theorem infoOp : (Try.prog.info? 42).map (fun i => (i.zero, i.size, i.bytes)) = some (some (.agg #[.int .u8 0, .int .i32 0]), 2, 8) := by kernel_rfl

theorem opsAt_own {w : World} {base n : Nat} {v : Value} {os : List (Int × Int)} (h : w.ownsRow base 42 2 v n (flatO os)) : ∃ ao cap, v = .slice ao n cap ∧ OpsAt w ao n os ∧ (∀ a, ao = some a → base ≤ a.block) := by
  have hl : os.length = n := by have := h.1; rw [flatO_length] at this; omega
  have hcs := fun g hg => h.cells (g := g) hg
  rcases h.2 with ⟨rfl, rfl⟩ | ⟨g, cap, cur, rfl, hb, hg, hle, _⟩
  · exact ⟨_, _, rfl, ⟨hl, fun hp => by omega⟩, fun _ h => by simp at h⟩
  · refine ⟨_, _, rfl, ⟨hl, fun hp => ⟨g, 0, rfl, lt_of_block hg, fun i hi => ?_⟩⟩, fun a ha => by injection ha with ha; subst ha; exact hb⟩
    obtain ⟨h1, h2⟩ := flatO_at os i (by omega)
    have k1 := hcs g rfl _ _ h1
    have k2 := hcs g rfl _ _ h2
    rw [Addr.add_lit] at k1 k2
    exact ⟨k1, by rw [Nat.add_assoc]; exact k2⟩

/-- Operations in new memory. -/
def OpsNew (w : World) (os : List (Int × Int)) (e : Ending) (w' : World) : Prop :=
  ∃ ao cap, e = .returned (.slice ao os.length cap) ∧ OpsAt w' ao os.length os ∧ (∀ a, ao = some a → w.heap.size ≤ a.block) ∧ Below w.heap.size w w'

/-- The first k operations in a row of one's own. -/
def Opsd (w : World) (kinds : Int) (xs : List Int) (k : Nat) (v : Value) (wr : World) : Prop := wr.ownsRow w.heap.size 42 2 v k (flatO ((xs.take k).map (opOf kinds))) ∧ Below w.heap.size w wr

theorem Opsd.drew {w wr : World} {kinds : Int} {xs : List Int} {k : Nat} {v : Value} (h : Opsd w kinds xs k v wr) : Opsd w kinds xs k v wr.drew := ⟨h.1.drew, below_drewN h.2 1⟩
theorem Opsd.next {w wr w1 : World} {kinds : Int} {xs : List Int} {k : Nat} {v v' : Value} {o : Obj} (h : Opsd w kinds xs k v wr) (hk : k < xs.length)
    (hown : w1.ownsRow w.heap.size 42 2 v' (k + 1) (flatO ((xs.take k).map (opOf kinds)) ++ [.int .u8 (opOf kinds (xs.getD k 0)).1, .int .i32 (opOf kinds (xs.getD k 0)).2])) (hg : (wr.alloc o).grownBy w1 v.ownBlock) : Opsd w kinds xs (k + 1) v' w1 := by
  refine ⟨?_, (h.2.alloc h.2.size o).grown hg (Nat.le_trans h.2.size (by simp)) (fun k e => (h.1.lt k e).1)⟩
  rw [show xs.take (k + 1) = xs.take k ++ [xs.getD k 0] by rw [List.take_succ_eq_append_getElem hk]; simp [List.getD, hk], List.map_append, List.map_cons, List.map_nil, flatO_snoc]
  exact hown

theorem byte_at {xs : List Int} (h : ∀ x ∈ xs, 0 ≤ x ∧ x ≤ 255) (i : Nat) : 0 ≤ xs.getD i 0 ∧ xs.getD i 0 ≤ 255 := by
  rcases Nat.lt_or_ge i xs.length with h1 | h1
  · simpa [List.getD, h1] using h xs[i] (List.getElem_mem h1)
  · simp [List.getD, h1]

theorem op_cells (w : World) (a b : Int) (t : TypeId) : ∀ j u, ([.int .u8 a, .int .i32 b] : List Value)[j]? = some u → (w.alloc (.cells #[.int .u8 a, .int .i32 b] t)).cell? ((⟨w.heap.size, 0, none⟩ : Addr).add j) = some u := by
  intro j u hu
  match j with
  | 0 => simp at hu; subst hu; go_simp
  | 1 => simp at hu; subst hu; go_simp
  | j + 2 => simp at hu
theorem op_one (a b : Int) : ∀ u ∈ ([.int .u8 a, .int .i32 b] : List Value), u.oneCell' = true := by
  intro u hu
  simp at hu
  rcases hu with rfl | rfl <;> rfl

theorem opsDone {w wr : World} {kinds : Int} {xs : List Int} {k : Nat} {v : Value} (h : Opsd w kinds xs k v wr) (hk : k = min xs.length 80) : OpsNew w (opsL kinds xs) (.returned v) wr := by
  have hl : (opsL kinds xs).length = k := by simp [opsL]; omega
  have e : (xs.take k).map (opOf kinds) = opsL kinds xs := by
    unfold opsL
    rcases Nat.le_total xs.length 80 with h1 | h1
    · rw [List.take_of_length_le (by omega), List.take_of_length_le h1]
    · rw [hk, Nat.min_eq_right h1]
  have h1 := h.1
  rw [e] at h1
  obtain ⟨ao, cap, rfl, h2, h3⟩ := opsAt_own h1
  refine ⟨ao, cap, by rw [hl], by rw [hl]; exact h2, h3, h.2⟩

set_option maxHeartbeats 4000000 in
theorem opsAny (w : World) (ao : Option Addr) (len cap : Nat) (xs : List Int) (kinds : Int) (hr : Reads .u8 w ao len xs) (hby : ∀ x ∈ xs, 0 ≤ x ∧ x ≤ 255) (hlen : len ≤ 140737488351232) (k0 : 1 ≤ kinds) (k1 : kinds ≤ 9) :
    Calls Try.prog 12 #[.slice ao len cap, .int .u8 kinds] w (OpsNew w (opsL kinds xs)) := by
  obtain ⟨i0, hi, hz0, hz1, hz2⟩ := info_parts infoOp
  have HR := Lib.hid hr
  have HY := Lib.hid hby
  clear hr hby
  go_enter Try.func12, Try.ntmps12
  go_wp2
  have HS := Lib.hid (show Opsd w kinds xs 0 (.slice none 0 0) w from ⟨by simpa [flatO] using World.ownsRow_nil w w.heap.size 42 2, Below.refl _ w⟩)
  go_loopw [5, 6] (fun v i wr => ∃ k : Nat, k ≤ len ∧ k ≤ 80 ∧ i = .int .i64 k ∧ Opsd w kinds xs k v wr) (fun _ i _ => len - (intOf i).toNat)
  case atStart => exact ⟨0, Nat.zero_le _, Nat.zero_le _, rfl, HS.out⟩
  case round =>
    obtain ⟨k, hk, hk8, rfl, hpk⟩ := hrel
    have HK := Lib.hid hpk
    clear hpk HS
    by_cases hlt : k < len
    · by_cases h80 : k < 80
      · obtain ⟨b, off, rfl, bl, hc⟩ := (HR.out.keep HK.out.2).2 (by omega)
        have c := hc k hlt
        have hb := byte_at HY.out k
        clear hc
        have i1 : (k : Int) < len := by omega
        go_upto_region 5 with (fail)
        have HD := Lib.hid HK.out.drew
        have HL := Lib.hid (show k < xs.length by rw [HR.out.1]; exact hlt)
        clear HK
        obtain ⟨y, hy⟩ : ∃ y, xs.getD k 0 = y := ⟨_, rfl⟩
        rw [hy] at c hb
        have HYY := Lib.hid hy
        clear hy
        have HO := Lib.hid (show opOf kinds y = (1 + y % kinds, y / 8 - 9) from rfl)
        obtain ⟨y0, y1⟩ := hb
        have m0 := Int.emod_nonneg y (show kinds ≠ 0 by omega)
        have m1 := Int.emod_lt_of_pos y (show 0 < kinds by omega)
        have n0 : ¬ kinds = 0 := by omega
        have e1 : y.tmod kinds = y % kinds := Int.tmod_eq_emod_of_nonneg y0
        have e2 : IntKind.u8.wrap (y % kinds) = y % kinds := by rw [IntKind.wrap_u8]; omega
        have e3 : IntKind.u8.wrap (1 + y % kinds) = 1 + y % kinds := by rw [IntKind.wrap_u8]; omega
        have e4 : y.tdiv 8 = y / 8 := Int.tdiv_eq_ediv_of_nonneg y0
        have e5 : IntKind.u8.wrap (y / 8) = y / 8 := by rw [IntKind.wrap_u8]; omega
        have e6 : IntKind.i32.wrap (y / 8) = y / 8 := by rw [IntKind.wrap_i32]; omega
        have e7 : IntKind.i32.wrap (y / 8 - 9) = y / 8 - 9 := by rw [IntKind.wrap_i32]; omega
        generalize y / 8 = q at *
        generalize y % kinds = r at *
        go_region_law (refine step_append_own _ rfl _ _ 22 rfl w.heap.size 42 i0 _ 2 8 Try.underlying22 hi hz0 hz1 hz2 rfl (by decide) _ _ _ rfl (HD.out.1.alloc _) ⟨wr.heap.size, 0, none⟩ 1 1 [.int .u8 (1 + r), .int .i32 (q - 9)] rfl rfl (op_cells wr.drew _ _ _) (op_one _ _) (by simp only [maxLen]; omega) (by omega) (Nat.le_trans HD.out.2.size (by simp)) ?_; intro v' w4 hown' hgrow; have HO4 := Lib.hid hown'; have HG4 := Lib.hid hgrow; clear hown' hgrow)
        all_goals
          clear e1 e2 e3 e4 e5 e6 e7
          go_wp2
          go_roundw
          case rel => exact ⟨k + 1, by omega, by omega, by go_num, HD.out.next HL.out (by rw [HYY.out, HO.out]; exact HO4.out) HG4.out⟩
          case measure => simp [intOf]; omega
      · obtain rfl : k = 80 := by omega
        have HF := Lib.hid HK.out
        clear HK
        go_wp2
        go_ret
        exact opsDone HF.out (by rw [HR.out.1]; omega)
    · obtain rfl : k = len := by omega
      have HF := Lib.hid HK.out
      clear HK
      go_wp2
      go_ret
      exact opsDone HF.out (by rw [HR.out.1]; omega)

theorem take_op (os : List (Int × Int)) (k : Nat) (h : k < os.length) : os.take (k + 1) = os.take k ++ [os.getD k (0, 0)] := by
  rw [List.take_succ_eq_append_getElem h]; simp [List.getD, h]

theorem opsL_ok (kinds : Int) (xs : List Int) (h : ∀ x ∈ xs, 0 ≤ x ∧ x ≤ 255) (k0 : 1 ≤ kinds) (k1 : kinds ≤ 9) : ∀ o ∈ opsL kinds xs, OpOk o := by
  intro o ho
  simp only [opsL, List.mem_map] at ho
  obtain ⟨x, hx, rfl⟩ := ho
  have hb := h x (List.mem_of_mem_take hx)
  have m0 := Int.emod_nonneg x (show kinds ≠ 0 by omega)
  have m1 := Int.emod_lt_of_pos x (show 0 < kinds by omega)
  simp only [OpOk, opOf]
  omega
theorem opsL_len (kinds : Int) (xs : List Int) : (opsL kinds xs).length ≤ 80 := by simp [opsL]; omega

end Go.Proofs.Ytafocplahmfghaa
