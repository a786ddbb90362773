/-
  What reaperlaw04.Ops makes of bytes, and that there is room for it (by name from XOps8). Conditions: bytes.
-/
import Derived.Test.YtejnadokjnfagaaKnown8
namespace Go.Proofs.Ytejnadokjnfagaa
open Go.RowKit

theorem opsAt_ownC {w : World} {base n : Nat} {v : Value} {os : List (Int × Int)} (h : w.ownsRow base 36 2 v n (flatO os)) : ∃ ao cap, v = .slice ao n cap ∧ OpsAt w ao n os ∧ n ≤ cap ∧ (∀ a, ao = some a → base ≤ a.block) := by
  have hl : os.length = n := by have := h.1; rw [flatO_length] at this; omega
  have hcs := fun g hg => h.cells (g := g) hg
  rcases h.2 with ⟨rfl, rfl⟩ | ⟨g, cap, cur, rfl, hb, hg, hle, _⟩
  · exact ⟨_, _, rfl, ⟨hl, fun hp => by omega⟩, Nat.le_refl _, fun _ h => by simp at h⟩
  · refine ⟨_, _, rfl, ⟨hl, fun hp => ⟨g, 0, rfl, lt_of_block hg, fun i hi => ?_⟩⟩, hle, fun a ha => by injection ha with ha; subst ha; exact hb⟩
    obtain ⟨h1, h2⟩ := flatO_at os i (by omega)
    have k1 := hcs g rfl _ _ h1
    have k2 := hcs g rfl _ _ h2
    rw [Addr.add_lit] at k1 k2
    exact ⟨k1, by rw [Nat.add_assoc]; exact k2⟩

/-- Operations in new memory. -/
def OpsNewC (w : World) (os : List (Int × Int)) (e : Ending) (w' : World) : Prop :=
  ∃ ao cap, e = .returned (.slice ao os.length cap) ∧ OpsAt w' ao os.length os ∧ os.length ≤ cap ∧ (∀ a, ao = some a → w.heap.size ≤ a.block) ∧ Below w.heap.size w w'

theorem opsDoneC {w wr : World} {kinds : Int} {xs : List Int} {k : Nat} {v : Value} (h : Opsd w kinds xs k v wr) (hk : k = min xs.length 80) : OpsNewC w (opsL kinds xs) (.returned v) wr := by
  have hl : (opsL kinds xs).length = k := by simp [opsL]; omega
  have e : (xs.take k).map (opOf kinds) = opsL kinds xs := by
    unfold opsL
    rcases Nat.le_total xs.length 80 with h1 | h1
    · rw [List.take_of_length_le (by omega), List.take_of_length_le h1]
    · rw [hk, Nat.min_eq_right h1]
  have h1 := h.1
  rw [e] at h1
  obtain ⟨ao, cap, rfl, h2, hc, h3⟩ := opsAt_ownC h1
  refine ⟨ao, cap, by rw [hl], by rw [hl]; exact h2, by rw [hl]; exact hc, h3, h.2⟩

set_option maxHeartbeats 4000000 in
theorem opsAnyC (w : World) (ao : Option Addr) (len cap : Nat) (xs : List Int) (kinds : Int) (hr : Reads .u8 w ao len xs) (hby : ∀ x ∈ xs, 0 ≤ x ∧ x ≤ 255) (hlen : len ≤ 140737488351232) (k0 : 1 ≤ kinds) (k1 : kinds ≤ 9) :
    Calls Try.prog 12 #[.slice ao len cap, .int .u8 kinds] w (OpsNewC w (opsL kinds xs)) := by
  obtain ⟨i0, hi, hz0, hz1, hz2⟩ := info_parts infoOp
  have HR := Lib.hid hr
  have HY := Lib.hid hby
  clear hr hby
  go_enter Try.func12, Try.ntmps12
  go_wp2
  have HS := Lib.hid (show Opsd w kinds xs 0 (.slice none 0 0) w from ⟨by simpa [flatO] using World.ownsRow_nil w w.heap.size 36 2, Below.refl _ w⟩)
  go_loopw [5, 6] (fun v i wr => ∃ k : Nat, k ≤ len ∧ k ≤ 80 ∧ i = .int .i64 k ∧ Opsd w kinds xs k v wr) (fun _ i _ => len - (intOf i).toNat)
  case atStart => exact ⟨0, Nat.zero_le _, Nat.zero_le _, rfl, HS.out⟩
  case round =>
    obtain ⟨k, hk, hk8, rfl, hpk⟩ := hrel
    have HK := Lib.hid hpk
    clear hpk HS
    by_cases hlt : k < len
    · by_cases h80 : k < 80
      · obtain ⟨b, off, rfl, bl, hc⟩ := (HR.out.keep HK.out.2).2 (by omega)
        have c := hc k hlt
        have hb := byte_at HY.out k
        clear hc
        have i1 : (k : Int) < len := by omega
        go_upto_region 5 with (fail)
        have HD := Lib.hid HK.out.drew
        have HL := Lib.hid (show k < xs.length by rw [HR.out.1]; exact hlt)
        clear HK
        obtain ⟨y, hy⟩ : ∃ y, xs.getD k 0 = y := ⟨_, rfl⟩
        rw [hy] at c hb
        have HYY := Lib.hid hy
        clear hy
        have HO := Lib.hid (show opOf kinds y = (1 + y % kinds, y / 8 - 9) from rfl)
        obtain ⟨y0, y1⟩ := hb
        have m0 := Int.emod_nonneg y (show kinds ≠ 0 by omega)
        have m1 := Int.emod_lt_of_pos y (show 0 < kinds by omega)
        have n0 : ¬ kinds = 0 := by omega
        have e1 : y.tmod kinds = y % kinds := Int.tmod_eq_emod_of_nonneg y0
        have e2 : IntKind.u8.wrap (y % kinds) = y % kinds := by rw [IntKind.wrap_u8]; omega
        have e3 : IntKind.u8.wrap (1 + y % kinds) = 1 + y % kinds := by rw [IntKind.wrap_u8]; omega
        have e4 : y.tdiv 8 = y / 8 := Int.tdiv_eq_ediv_of_nonneg y0
        have e5 : IntKind.u8.wrap (y / 8) = y / 8 := by rw [IntKind.wrap_u8]; omega
        have e6 : IntKind.i32.wrap (y / 8) = y / 8 := by rw [IntKind.wrap_i32]; omega
        have e7 : IntKind.i32.wrap (y / 8 - 9) = y / 8 - 9 := by rw [IntKind.wrap_i32]; omega
        generalize y / 8 = q at *
        generalize y % kinds = r at *
        go_region_law (refine step_append_own _ rfl _ _ 23 rfl w.heap.size 36 i0 _ 2 8 Try.underlying23 hi hz0 hz1 hz2 rfl (by decide) _ _ _ rfl (HD.out.1.alloc _) ⟨wr.heap.size, 0, none⟩ 1 1 [.int .u8 (1 + r), .int .i32 (q - 9)] rfl rfl (op_cells wr.drew _ _ _) (op_one _ _) (by simp only [maxLen]; omega) (by omega) (Nat.le_trans HD.out.2.size (by simp)) ?_; intro v' w4 hown' hgrow; have HO4 := Lib.hid hown'; have HG4 := Lib.hid hgrow; clear hown' hgrow)
        all_goals
          clear e1 e2 e3 e4 e5 e6 e7
          go_wp2
          go_roundw
          case rel => exact ⟨k + 1, by omega, by omega, by go_num, HD.out.next HL.out (by rw [HYY.out, HO.out]; exact HO4.out) HG4.out⟩
          case measure => simp [intOf]; omega
      · obtain rfl : k = 80 := by omega
        have HF := Lib.hid HK.out
        clear HK
        go_wp2
        go_ret
        exact opsDoneC HF.out (by rw [HR.out.1]; omega)
    · obtain rfl : k = len := by omega
      have HF := Lib.hid HK.out
      clear HK
      go_wp2
      go_ret
      exact opsDoneC HF.out (by rw [HR.out.1]; omega)

section
variable {w : World} {ao : Option Addr} {n cap : Nat} {os : List (Int × Int)}
/-- Some operations, and all others. -/
theorem ops_take {k : Nat} (h : OpsAt w ao n os) (hk : k ≤ n) : OpsAt w ao k (os.take k) := by
  refine ⟨by rw [List.length_take, h.1, Nat.min_eq_left hk], fun hp => ?_⟩
  obtain ⟨b, off, e, bl, hc⟩ := h.2 (by omega)
  refine ⟨b, off, e, bl, fun i hi => ?_⟩
  have := hc i (by omega)
  simpa [List.getD, hi] using this
theorem ops_drop {b off k : Nat} (h : OpsAt w (some ⟨b, off, none⟩) n os) (hk : k < n) : OpsAt w (some ⟨b, off + k * 2, none⟩) (n - k) (os.drop k) := by
  refine ⟨by rw [List.length_drop, h.1], fun hp => ?_⟩
  obtain ⟨b', off', e, bl, hc⟩ := h.2 (by omega)
  simp only [Option.some.injEq, Addr.mk.injEq, and_true] at e
  obtain ⟨rfl, rfl⟩ := e
  refine ⟨b, off + k * 2, rfl, bl, fun i hi => ?_⟩
  have := hc (k + i) (by omega)
  rw [show off + k * 2 + i * 2 = off + (k + i) * 2 by omega]
  simpa [List.getD] using this
theorem ints_none (w : World) (A : Option Addr) : Reads .i32 w A 0 [] := ⟨rfl, fun h => by omega⟩
theorem ops_none (w : World) (A : Option Addr) : OpsAt w A 0 [] := ⟨rfl, fun h => by omega⟩
/-- What is told, in a row of one's own. -/
theorem resAt_own {base : Nat} {v : Value} {rs : List (Int × Int)} (h : w.ownsRow base 32 2 v n (flatO rs)) : ∃ ao cap, v = .slice ao n cap ∧ OpsAt w ao n rs := by
  have hl : rs.length = n := by have := h.1; rw [flatO_length] at this; omega
  have hcs := fun g hg => h.cells (g := g) hg
  rcases h.2 with ⟨rfl, rfl⟩ | ⟨g, cap, cur, rfl, hb, hg, hle, _⟩
  · exact ⟨_, _, rfl, ⟨hl, fun hp => by omega⟩⟩
  · refine ⟨_, _, rfl, ⟨hl, fun hp => ⟨g, 0, rfl, lt_of_block hg, fun i hi => ?_⟩⟩⟩
    obtain ⟨h1, h2⟩ := flatO_at rs i (by omega)
    have k1 := hcs g rfl _ _ h1
    have k2 := hcs g rfl _ _ h2
    rw [Addr.add_lit] at k1 k2
    exact ⟨k1, by rw [Nat.add_assoc]; exact k2⟩
theorem flatO_append (a b : List (Int × Int)) : flatO (a ++ b) = flatO a ++ flatO b := by simp [flatO]
theorem flatO_one (rs : List (Int × Int)) : ∀ u ∈ flatO rs, u.oneCell' = true := by
  intro u hu
  simp only [flatO, List.mem_flatMap, List.mem_cons, List.not_mem_nil, or_false] at hu
  obtain ⟨i, _, rfl | rfl⟩ := hu <;> rfl
theorem RRow.src {b m : Nat} {rs : List (Int × Int)} (h : RRow w b rs) : 0 < m → ∃ ad, some (⟨b, 0, none⟩ : Addr) = some ad ∧ ∀ j u, (flatO rs)[j]? = some u → w.cell? (ad.add j) = some u := fun _ => by
  refine ⟨⟨b, 0, none⟩, rfl, fun j u hu => ?_⟩
  rw [Addr.add_lit]
  unfold RRow at h
  simp only [World.cell?, h]
  simpa using hu
end

theorem runZ_append (obj m : Int) (zs : List Int) (a b : List (Int × Int)) : runZ obj m zs (a ++ b) = runZ obj m (runZ obj m zs a) b := by simp [runZ]
theorem runT_append (obj m : Int) (b : List (Int × Int)) : ∀ (a : List (Int × Int)) (zs : List Int), runT obj m zs (a ++ b) = runT obj m zs a ++ runT obj m (runZ obj m zs a) b
  | [], zs => rfl
  | o :: a, zs => by
    show _ :: runT obj m (objL obj m zs o.1 o.2) (a ++ b) = _
    rw [runT_append obj m b a]
    rfl

end Go.Proofs.Ytejnadokjnfagaa
