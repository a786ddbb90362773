/-
  The walk of CoinBits: for all bytes it answers true and leaves all old memory as it was.
-/
import Derived.Test.YtkpjgekhcjjlpaaArgs6
import Derived.Deep.RegionHeld3
namespace Go.Proofs.Ytkpjgekhcjjlpaa
open Go.RowKit

theorem Reads.old {k : IntKind} {w : World} {ao : Option Addr} {n : Nat} {zs : List Int} (h : Reads k w ao n zs) : 0 < n → ∀ a, ao = some a → a.block < w.heap.size := by
  intro hp a ha
  obtain ⟨b, off, e, hb, _⟩ := h.2 hp
  rw [e] at ha
  injection ha with ha
  subst ha
  exact hb

theorem first_drop (zs : List Int) {m n : Nat} (h : m < n) : (first zs n).drop m = bitAt zs m :: (first zs n).drop (m + 1) := by
  rw [List.drop_eq_getElem_cons (by rw [first_length]; exact h)]
  simp [first]
theorem first_done (zs : List Int) (n : Nat) : (first zs n).drop n = [] := by rw [List.drop_eq_nil_iff, first_length]; exact Nat.le_refl _

theorem rem_bit (zs : List Int) (k q : Nat) (hq : q < 8) (z : Int) (hz : z = zs.getD k 0) (z0 : 0 ≤ z) : ((z / 2 ^ q).tmod 2 == 1) = bitAt zs (8 * k + q) := by
  have h : 0 ≤ z / 2 ^ q := Int.ediv_nonneg z0 (Int.le_of_lt (Int.pow_pos (by omega)))
  rw [bitAt, show (8 * k + q) / 8 = k by omega, show (8 * k + q) % 8 = q by omega, ← hz, Int.tmod_eq_emod_of_nonneg h]
  by_cases e : z / 2 ^ q % 2 = 1 <;> simp [e]

/-- A coin of which m bits are tossed. -/
def Tossed (w : World) (B p : Nat) (bs : List Bool) (m : Nat) (wr : World) : Prop := Coin1 wr B p (bs.drop m) ∧ Below B w wr

set_option maxHeartbeats 8000000 in
theorem bitsWalk {w : World} (ao : Option Addr) (n cap : Nat) (zs : List Int) (hx : ArgBytes w ao n cap zs) (hlen : n ≤ 140737488351232) :
    Calls Try.prog 4 #[.slice ao n cap] w fun e w' => e = .returned (.bool true) ∧ Below w.heap.size w w' := by
  have HX := Lib.hid hx
  have HL := Lib.hid hx.1.1
  clear hx
  go_enter Try.func4, Try.ntmps4
  go_wp2_with fail
  refine (new1 w).mono ?_
  rintro e w1 ⟨rfl, c1, b1⟩
  by_cases hl : 100 < n
  · have hb : decide ((100 : Int) < (n : Int)) = true := by simp; omega
    clear hl hlen c1
    have HB1 := Lib.hid b1
    clear b1
    go_wp2_with (go_at_call 9; refine (known _).mono ?_; rintro e w2 ⟨rfl, b2⟩; have HB2 := Lib.hid (HB1.out.trans (b2.mono HB1.out.size)); clear b2)
    go_ret
    exact ⟨rfl, HB2.out⟩
  · have hb : decide ((100 : Int) < (n : Int)) = false := by simp; omega
    have hn : n ≤ 100 := by omega
    have C := feed1 c1 (HX.out.1.keep b1) (cap := cap) HX.out.1.old HX.out.2.2.2 (by omega)
    rw [feedL_small _ _ (by rw [HL.out]; simp; omega), List.nil_append, HL.out] at C
    have HB1 := Lib.hid b1
    clear hl hlen c1 b1
    go_wp2_with fail
    refine C.mono ?_
    clear C
    rintro e w2 ⟨rfl, c2, b2⟩
    have HS := Lib.hid (show Tossed w w.heap.size w.heap.size (first zs (8 * n)) (8 * 0) w2 from ⟨by simpa using c2, HB1.out.trans b2⟩)
    clear c2 b2 HB1
    have H0 := Lib.hid (Nat.le_refl w.heap.size)
    go_wp2
    go_loopw [4] (fun i wr => ∃ k : Nat, k ≤ n ∧ i = .int .i64 k ∧ Tossed w w.heap.size w.heap.size (first zs (8 * n)) (8 * k) wr) (fun i _ => n - (intOf i).toNat)
    case atStart => exact ⟨0, Nat.zero_le _, rfl, HS.out⟩
    case round =>
      obtain ⟨k, hk, rfl, ht⟩ := hrel
      have HT := Lib.hid ht
      clear ht HS
      by_cases hlt : k < n
      · have i1 : (k : Int) < n := by omega
        go_wp2
        go_loopw [5] (fun i wr => ∃ q : Nat, q ≤ 8 ∧ i = .int .i64 q ∧ Tossed w w.heap.size w.heap.size (first zs (8 * n)) (8 * k + q) wr) (fun i _ => 8 - (intOf i).toNat)
        case atStart => exact ⟨0, Nat.zero_le _, rfl, HT.out⟩
        case round =>
          obtain ⟨q, hq, rfl, ht⟩ := hrel
          by_cases h8 : q < 8
          · obtain ⟨c, b⟩ := ht
            rw [first_drop zs (show 8 * k + q < 8 * n by omega)] at c
            obtain ⟨bb, oo, rfl, lb, hc⟩ := HX.out.1.2 (by omega)
            have cb := (b.cell (p := ⟨bb, oo + k, none⟩) lb).trans (hc k hlt)
            have hzk : 0 ≤ zs.getD k 0 ∧ zs.getD k 0 ≤ 255 := by
              have : k < zs.length := by rw [HL.out]; exact hlt
              simpa [List.getD, this] using HX.out.2.2.2 (zs[k]) (List.getElem_mem this)
            have HZ := Lib.hid (rem_bit zs k q h8 _ rfl hzk.1)
            have C := toss1 c.drew
            rw [List.headD_cons, List.tail_cons, ← HZ.out] at C
            generalize zs.getD k 0 = z at *
            obtain ⟨z0, z1⟩ := hzk
            have i8 : (q : Int) < 8 := by omega
            have HB := Lib.hid (And.intro b lb)
            clear c b hc
            go_upto_region 11 with (fail)
            have hw : IntKind.u64.wrap (q : Int) = q := by simp [IntKind.wrap, IntKind.bits, IntKind.signed]; omega
            have hm : min q 8 = q := by omega
            go_region_held3 (fun w' => w'.cell? ⟨bb, oo + k, none⟩ = some (.int .u8 z)) (first | exact cb | exact cb2) (first | (go_at_call 14; refine C.mono ?_; rintro e w3 ⟨rfl, c3, b3⟩; have cb2 := (b3.cell (p := ⟨bb, oo + k, none⟩) HB.out.2).trans cb; have HT3 := Lib.hid (show Tossed w w.heap.size w.heap.size (first zs (8 * n)) (8 * k + (q + 1)) w3 from ⟨c3, HB.out.1.drew.trans b3⟩); clear c3 b3))
            all_goals
              clear hw hm
              go_wp2
              go_roundw
              case rel => exact ⟨q + 1, by omega, by go_num, HT3.out⟩
              case measure => simp [intOf]; omega
          · obtain rfl : q = 8 := by omega
            have HT2 := Lib.hid ht
            clear ht
            go_wp2
            go_roundw
            case rel => exact ⟨k + 1, by omega, by go_num, HT2.out⟩
            case measure => simp [intOf]; omega
      · obtain rfl : k = n := by omega
        obtain ⟨c, b⟩ := HT.out
        rw [first_done] at c
        have HC := Lib.hid c
        have HB := Lib.hid b
        clear c b HT
        go_wp2_with fail
        refine (known _).mono ?_
        rintro e w3 ⟨rfl, b3⟩
        have HC3 := Lib.hid (HC.out.fresh b3)
        have HB3 := Lib.hid (HB.out.trans (b3.mono HC.out.base))
        clear b3 HC HB
        have C := left1 HC3.out
        go_wp2_with fail
        refine C.mono ?_
        clear C
        rintro e w' ⟨rfl, rfl⟩
        have C := toss1 HC3.out
        go_wp2_with fail
        refine C.mono ?_
        clear C
        rintro e w4 ⟨rfl, c4, b4⟩
        have C := height1 c4
        rw [show up ([] : List Bool).tail = 0 from rfl] at C
        have HB4 := Lib.hid (HB3.out.trans b4)
        clear b4 c4 HC3 HB3
        go_wp2_with fail
        refine C.mono ?_
        clear C
        rintro e w5 ⟨rfl, c5, b5⟩
        have HB5 := Lib.hid (HB4.out.trans b5)
        clear b5 c5 HB4
        go_wp2
        go_ret
        exact ⟨rfl, HB5.out⟩

end Go.Proofs.Ytkpjgekhcjjlpaa
