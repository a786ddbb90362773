/-
  The walk of CoinUses: for all bytes it answers true and leaves all old memory as it was.
-/
import Derived.Test.YtkpjgekhcjjlpaaBitsWalk6
namespace Go.Proofs.Ytkpjgekhcjjlpaa
open Go.RowKit

/-- A coin of whatever bits. -/
def SomeCoin (w : World) (B p : Nat) (wr : World) : Prop := ∃ bs, Coin1 wr B p bs ∧ Below B w wr

set_option maxHeartbeats 8000000 in
theorem usesWalk {w : World} (ao : Option Addr) (n cap : Nat) (zs : List Int) (hx : ArgBytes w ao n cap zs) (hlen : n ≤ 140737488351232) :
    Calls Try.prog 8 #[.slice ao n cap] w fun e w' => e = .returned (.bool true) ∧ Below w.heap.size w w' := by
  have HX := Lib.hid hx
  have HL := Lib.hid hx.1.1
  clear hx
  go_enter Try.func8, Try.ntmps8
  go_wp2_with fail
  refine (new1 w).mono ?_
  rintro e w1 ⟨rfl, c1, b1⟩
  by_cases hl : 60 < n
  · have hb : decide ((60 : Int) < (n : Int)) = true := by simp; omega
    clear hl hlen c1
    have HB1 := Lib.hid b1
    clear b1
    go_wp2_with (go_at_call 9; refine (known _).mono ?_; rintro e w2 ⟨rfl, b2⟩; have HB2 := Lib.hid (HB1.out.trans (b2.mono HB1.out.size)); clear b2)
    go_ret
    exact ⟨rfl, HB2.out⟩
  · have hb : decide ((60 : Int) < (n : Int)) = false := by simp; omega
    have hn : n ≤ 60 := by omega
    have C := feed1 c1 (HX.out.1.keep b1) (cap := cap) HX.out.1.old HX.out.2.2.2 (by omega)
    have HB1 := Lib.hid b1
    clear hl hlen c1 b1
    go_wp2_with fail
    refine C.mono ?_
    clear C
    rintro e w2 ⟨rfl, c2, b2⟩
    have HS := Lib.hid (show SomeCoin w w.heap.size w.heap.size w2 from ⟨_, c2, HB1.out.trans b2⟩)
    clear c2 b2 HB1
    go_wp2
    go_loopw [4] (fun i wr => ∃ k : Nat, k ≤ 8 * n + 2 ∧ i = .int .i64 k ∧ SomeCoin w w.heap.size w.heap.size wr) (fun i _ => 8 * n + 2 - (intOf i).toNat)
    case atStart => exact ⟨0, Nat.zero_le _, rfl, HS.out⟩
    case round =>
      obtain ⟨k, hk, rfl, bs, c, b⟩ := hrel
      clear HS
      by_cases hlt : k < 8 * n + 2
      · have i1 : (k : Int) < 8 * (n : Int) + 2 := by omega
        have HU := Lib.hid (used bs)
        have u7 := up_le bs
        have hl1 := c.len
        have hl2 := left_le bs
        have C := left1 c
        have D := height1 c
        have HB := Lib.hid b
        clear b c
        generalize left bs = ls at *
        generalize up bs = u at *
        generalize bs.length = x at *
        go_wp2_with fail
        refine C.mono ?_
        clear C
        rintro e w' ⟨rfl, rfl⟩
        go_wp2_with fail
        refine D.mono ?_
        clear D
        rintro e w3 ⟨rfl, c3, b3⟩
        have C := left1 c3
        have HS3 := Lib.hid (show SomeCoin w w.heap.size w.heap.size w3 from ⟨_, c3, HB.out.trans b3⟩)
        clear c3 b3 HB
        generalize ls.length = l at *
        go_wp2_with fail
        refine C.mono ?_
        rintro e w' ⟨rfl, rfl⟩
        go_upto_region 11 with (fail)
        rcases HU.out with ⟨h1, h2⟩ | ⟨h1, h2⟩
        · have i8 : decide ((u : Int) + 1 < 8) = true := by simp; omega
          rw [show (x : Int) - l = u + 1 by omega]
          clear h1 h2
          go_wp2
          go_roundw
          case rel => exact ⟨k + 1, by omega, by go_num, HS3.out⟩
          case measure => simp [intOf]; omega
        · by_cases h7 : u = 7
          · rw [show (x : Int) - l = 7 by omega, show (u : Int) + 1 = 8 by omega]
            clear h1 h2
            go_wp2
            go_roundw
            case rel => exact ⟨k + 1, by omega, by go_num, HS3.out⟩
            case measure => simp [intOf]; omega
          · rw [show (l : Int) = 0 by omega] at C
            rw [show (x : Int) - l = u by omega]
            have i8 : ((u : Int) + 1 == 8) = false := by simp; omega
            clear h1 h2 h7
            go_wp2_with fail
            refine C.mono ?_
            rintro e w' ⟨rfl, rfl⟩
            go_wp2
            go_roundw
            case rel => exact ⟨k + 1, by omega, by go_num, HS3.out⟩
            case measure => simp [intOf]; omega
      · have HC := Lib.hid c
        have HB := Lib.hid b
        have i1 : ¬ (k : Int) < 8 * (n : Int) + 2 := by omega
        clear c b
        go_wp2_with fail
        refine (known _).mono ?_
        rintro e w3 ⟨rfl, b3⟩
        have HB3 := Lib.hid (HB.out.trans (b3.mono HC.out.base))
        clear b3 HC HB
        go_wp2
        go_ret
        exact ⟨rfl, HB3.out⟩

end Go.Proofs.Ytkpjgekhcjjlpaa
