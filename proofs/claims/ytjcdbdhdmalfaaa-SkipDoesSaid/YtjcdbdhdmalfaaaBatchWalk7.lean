/-
  The walk of SkipBatch: for all numbers and lists it answers true and leaves all old memory as it was.
-/
import Derived.Test.YtjcdbdhdmalfaaaRising
namespace Go.Proofs.Ytjcdbdhdmalfaaa
open Go.RowKit

set_option maxHeartbeats 1600000 in
theorem risesAny (w : World) (ao : Option Addr) (n cap : Nat) (vs : List Int) (h : Reads .i32 w ao n vs) (hn : n ≤ 1000000) :
    Calls Try.prog 34 #[.slice ao n cap] w fun e w' => e = .returned (.bool (adjB vs)) ∧ Below w.heap.size w w' := by
  have HV := Lib.hid h
  clear h
  go_enter Try.func34, Try.ntmps34
  go_wp2
  go_loopw [3] (fun i wr => ∃ k : Nat, 1 ≤ k ∧ (k ≤ n ∨ k = 1) ∧ i = .int .i64 k ∧ (∀ j, 0 < j → j < k → vs.getD (j - 1) 0 ≤ vs.getD j 0) ∧ Below w.heap.size w wr) (fun i _ => n - (intOf i).toNat)
  case atStart => exact ⟨1, by omega, by omega, rfl, fun j h1 h2 => by omega, Below.refl _ _⟩
  case round =>
    obtain ⟨k, hk1, hk, rfl, hadj, hb⟩ := hrel
    have HB := Lib.hid hb
    have HJ := Lib.hid hadj
    clear hb hadj
    by_cases hlt : k < n
    · obtain ⟨b, off, rfl, hbl, hc⟩ := HV.out.2 (by omega)
      have c1 := (HB.out.cell (p := ⟨b, off + k, none⟩) hbl).trans (hc k hlt)
      have c0 := (HB.out.cell (p := ⟨b, off + (k - 1), none⟩) hbl).trans (hc (k - 1) (by omega))
      have HL := Lib.hid HV.out.1
      clear hc
      obtain ⟨v, hv⟩ : ∃ v, v = k - 1 := ⟨_, rfl⟩
      have HEv := Lib.hid hv
      rw [← hv] at c0
      have e1 : ((k : Int) - 1) = (v : Int) := by omega
      have e2 : IntKind.i64.wrap ((k : Int) - 1) = (v : Int) := by rw [IntKind.wrap_i64]; omega
      have v0 : (0 : Int) ≤ (v : Int) := by omega
      have vl : (v : Int) < n := by omega
      have k0 : (0 : Int) ≤ (k : Int) := by omega
      have kl : (k : Int) < n := by omega
      clear hv
      by_cases he : vs.getD k 0 < vs.getD v 0
      · have HQ := Lib.hid (show adjB vs = false from adjB_no fun h => by
          have h1 := h k (by omega) (by have := HL.out; omega)
          rw [← HEv.out] at h1
          omega)
        generalize vs.getD k 0 = y at *
        generalize vs.getD v 0 = z at *
        go_wp2
        go_quiet (fail)
        go_wp2
        go_ret
        exact ⟨congrArg (fun b => Ending.returned (.bool b)) HQ.out.symm, below_drewN HB.out _⟩
      · have HN := Lib.hid (show ∀ j, 0 < j → j < k + 1 → vs.getD (j - 1) 0 ≤ vs.getD j 0 from fun j h1 h2 => by
          by_cases e : j = k
          · subst e; rw [← HEv.out]; omega
          · exact HJ.out j h1 (by omega))
        generalize vs.getD k 0 = y at *
        generalize vs.getD v 0 = z at *
        go_wp2
        go_quiet (fail)
        clear e1 e2
        go_wp2
        go_roundw
        case rel => exact ⟨k + 1, by omega, by omega, by go_num, HN.out, below_drewN HB.out _⟩
        case measure => simp [intOf]; omega
    · have HQ := Lib.hid (show adjB vs = true from (adjB_iff vs).2 fun j h1 h2 => HJ.out j h1 (by have := HV.out.1; omega))
      go_wp2
      go_ret
      exact ⟨congrArg (fun b => Ending.returned (.bool b)) HQ.out.symm, HB.out⟩

theorem insStep {mo : Int} {l : List It} {vs hs : List Int} (hadj : adjB vs = true) {k : Nat} (hk : k < vs.length) (hl : (l.length : Int) ≤ mo) :
    insL mo (insMany l vs hs (min k (roomOf mo l vs))) ⟨vs.getD k 0, hOf (hs.getD k 1)⟩ = insMany l vs hs (min (k + 1) (roomOf mo l vs)) ∧ decide (((insMany l vs hs (min k (roomOf mo l vs))).length : Int) < mo) = decide (k < roomOf mo l vs) := by
  have hR : roomOf mo l vs = min (mo - l.length).toNat vs.length := by unfold roomOf; rw [if_pos hadj]
  have hle := insMany_length l vs hs (min k (roomOf mo l vs))
  unfold insL
  rw [hle]
  by_cases h : k < roomOf mo l vs
  · rw [if_pos (by omega), show min k (roomOf mo l vs) = k by omega, show min (k + 1) (roomOf mo l vs) = k + 1 by omega, decide_eq_true h, decide_eq_true (by omega)]
    exact ⟨rfl, rfl⟩
  · rw [if_neg (by omega), show min k (roomOf mo l vs) = roomOf mo l vs by omega, show min (k + 1) (roomOf mo l vs) = roomOf mo l vs by omega, decide_eq_false h, decide_eq_false (by omega)]
    exact ⟨rfl, rfl⟩

theorem toldB_at {r n k : Nat} (h : k < n) : (toldB r n)[k]? = some (decide (k < r)) := by
  unfold toldB
  by_cases e : k < r
  · rw [List.getElem?_append_left (by simpa using e), List.getElem?_replicate]
    simp [e]
  · rw [List.getElem?_append_right (by simpa using Nat.le_of_not_lt e), List.length_replicate, List.getElem?_replicate, if_pos (by omega), decide_eq_false e]

theorem Two.stepW {w a b : World} {F G : Nat → Prop} {p q : Nat} {most mo2 : Int} {bs bs' cs : List It} (h : Two w F G p q most mo2 bs cs a) (d : Did F p most bs' a b) : ∃ F', Two w F' G p q most mo2 bs' cs b ∧ Wrote F a b ∧ Later F F' a := by
  obtain ⟨F', k, wr, l⟩ := h.c.next d
  exact ⟨F', ⟨k, ⟨h.d.1.apart wr h.ap.symm, k.2.1, h.d.2.2⟩, l.apart h.ap h.d.lt⟩, wr, l⟩

/-- The same items in both. -/
def Both (w : World) (p q : Nat) (mo : Int) (wr : World) : Prop := ∃ F G l, Two w F G p q mo mo l l wr

/-- What was told lies in a row of neither list. -/
structure TB (w : World) (F G : Nat → Prop) (p q : Nat) (mo : Int) (L l : List It) (g : Nat) (row : List Bool) (W : World) : Prop where
  two : Two w F G p q mo mo L l W
  row : W.heap[g]? = some (.cells (row.map Value.bool).toArray 4 (0, 0))
  off : ¬ G g

theorem TB.fresh {w : World} {F G : Nat → Prop} {p q : Nat} {mo : Int} {L l : List It} {g : Nat} {row : List Bool} {W W' : World} (h : TB w F G p q mo L l g row W) (hb : Below W.heap.size W W') : TB w F G p q mo L l g row W' :=
  ⟨h.two.fresh hb, (hb.block g (lt_of_block h.row)).trans h.row, h.off⟩
theorem TB.next {w : World} {F G : Nat → Prop} {p q : Nat} {mo : Int} {L l l' : List It} {g : Nat} {row : List Bool} {W W' : World} (h : TB w F G p q mo L l g row W) (d : Did G q mo l' W W') : ∃ G', TB w F G' p q mo L l' g row W' := by
  obtain ⟨G', k, wr, lt⟩ := h.two.d.next d
  exact ⟨G', ⟨⟨h.two.c.1.apart wr h.two.ap, k.2.1, h.two.c.2.2⟩, k, (lt.apart h.two.ap.symm h.two.c.lt).symm⟩, (wr.block g (lt_of_block h.row) h.off).trans h.row, lt.not h.off (lt_of_block h.row)⟩

def TRow (w : World) (F : Nat → Prop) (p q : Nat) (mo : Int) (L l : List It) (g : Nat) (row : List Bool) (W : World) : Prop := ∃ G, TB w F G p q mo L l g row W

theorem lvl_le {l : List It} {k : Int} : (lvlOf l k).length ≤ l.length := by unfold lvlOf; rw [List.length_map]; exact List.length_filter_le _ _

theorem Reads.lt {k : IntKind} {w : World} {ao : Option Addr} {n : Nat} {zs : List Int} (h : Reads k w ao n zs) : 0 < n → ∀ a, ao = some a → a.block < w.heap.size := fun hp a e => by
  obtain ⟨b, off, e2, hb, _⟩ := h.2 hp
  rw [e2] at e
  injection e with e
  subst e
  exact hb

set_option maxRecDepth 100000 in
set_option maxHeartbeats 16000000 in
theorem batchPair (w : World) (mo : Int) (ao : Option Addr) (la ca : Nat) (zs : List Int) (vo ho : Option Addr) (n cv m ch : Nat) (vs hs : List Int) (hmo : 0 ≤ mo ∧ mo ≤ 1000) (ha : Reads .u8 w ao la zs) (hz : ∀ z ∈ zs, 0 ≤ z ∧ z ≤ 255) (hla : la ≤ 1000)
    (hv : Reads .i32 w vo n vs) (hcv : n ≤ cv) (hh : Reads .i64 w ho m hs) (hn : n ≤ 1000) (hm : m ≤ 1000) :
    Calls Try.prog 21 #[.int .i64 mo, .slice ao la ca, .slice vo n cv, .slice ho m ch] w fun e w' => e = .returned (.bool true) ∧ Below w.heap.size w w' := by
  have HA := Lib.hid ha
  have HZ := Lib.hid hz
  have HV := Lib.hid hv
  have HH := Lib.hid hh
  have HMo := Lib.hid hmo
  clear ha hz hv hh hmo
  go_enter Try.func21, Try.ntmps21
  go_wp2_with fail
  refine (newAny _ w).mono ?_
  rintro e w1 ⟨rfl, s1, bl1⟩
  rw [mostOf_self _ HMo.out.1 HMo.out.2] at s1
  have HS1 := Lib.hid (At.new s1 bl1)
  clear s1 bl1
  go_wp2_with fail
  refine (newAny _ w1).mono ?_
  rintro e w2 ⟨rfl, s2, bl2⟩
  rw [mostOf_self _ HMo.out.1 HMo.out.2] at s2
  have k2 := HS1.out.copied s2 bl2
  have HT2 := Lib.hid (show Both w w.heap.size w1.heap.size mo w2 from ⟨_, _, _, HS1.out.fresh bl2, k2.1, k2.2⟩)
  clear s2 bl2 k2 HS1
  go_wp2
  go_loopw [11] (fun i wr => ∃ k : Nat, k ≤ la ∧ i = .int .i64 k ∧ Both w w.heap.size w1.heap.size mo wr) (fun i _ => la - (intOf i).toNat)
  case atStart => exact ⟨0, Nat.zero_le _, rfl, HT2.out⟩
  case round =>
    obtain ⟨k, hk, rfl, F, G, l, t3⟩ := hrel
    clear HT2
    have HT3 := Lib.hid t3
    clear t3
    by_cases hlt : k < la
    · obtain ⟨b, off, rfl, hbl, hc⟩ := HA.out.2 (by omega)
      have cz := (HT3.out.c.2.1.cell (p := ⟨b, off + k, none⟩) hbl).trans (hc k hlt)
      have hrz := HZ.out (zs.getD k 0) (by simp [List.getD, show k < zs.length by have := HA.out.1; omega])
      obtain ⟨r0, r1⟩ := hrz
      have k0 : (0 : Int) ≤ (k : Int) := by omega
      have HCz := Lib.hid (hc k hlt)
      clear hc
      generalize zs.getD k 0 = z at *
      have HT4 := Lib.hid (HT3.out.fresh (Below.refl _ wr).drew)
      have C : ∀ v hv : Int, _ := fun v hv => insertAny HT4.out.c.1 v hv
      have HC := Lib.hid C
      clear C
      go_wp2
      go_still_tail 14, (by kernel_rfl)
      change wpList _ _ _ _ _ wr.drew
      clear cz HT3
      generalize wr.drew = W4 at *
      go_wp2_with fail
      refine (HC.out _ _).mono ?_
      rintro e w5 ⟨rfl, d5⟩
      obtain ⟨F5, t5, _, _⟩ := HT4.out.stepW d5
      have HT5 := Lib.hid t5
      clear d5 t5 HC HT4
      have cz := (HT5.out.c.2.1.cell (p := ⟨b, off + k, none⟩) hbl).trans HCz.out
      have HT6 := Lib.hid (HT5.out.fresh (Below.refl _ w5).drew)
      have C : ∀ v hv : Int, _ := fun v hv => insertAny HT6.out.d.1 v hv
      have HC := Lib.hid C
      clear C
      go_wp2
      go_still_tail 14, (by kernel_rfl)
      change wpList _ _ _ _ _ w5.drew
      clear cz HT5
      generalize w5.drew = W6 at *
      go_wp2_with fail
      refine (HC.out _ _).mono ?_
      rintro e w7 ⟨rfl, d7⟩
      obtain ⟨G7, t7⟩ := HT6.out.nextD d7
      have HT7 := Lib.hid (show Both w w.heap.size w1.heap.size mo w7 from ⟨_, _, _, t7⟩)
      clear d7 t7 HC HT6
      go_wp2
      go_roundw
      case rel => exact ⟨k + 1, by omega, by go_num, HT7.out⟩
      case measure => simp [intOf]; omega
    · obtain rfl : la = k := by omega
      generalize wr = w4 at *
      have C := batchAnyIf HT3.out.c.1 vo ho n cv m ch vs hs (HV.out.keep HT3.out.c.2.1) (HH.out.keep HT3.out.c.2.1) (HT3.out.c.old HV.out.lt) (HT3.out.c.old HH.out.lt) (by omega) hcv
      go_wp2_with fail
      refine C.mono ?_
      clear C
      intro e w5 hp
      obtain ⟨g, hg, he, hrow, d5⟩ := hp
      rw [HV.out.1] at he hrow
      subst he
      obtain ⟨F5, t5, _, _⟩ := HT3.out.stepW d5
      have HB5 := Lib.hid (show TRow w F5 w.heap.size w1.heap.size mo _ l g _ w5 from ⟨G, t5, hrow, fun e => by have := HT3.out.d.lt _ e; omega⟩)
      have HStep : Hid (adjB vs = true → ∀ k, k < n → _) := Lib.hid fun h k (hk : k < n) => insStep (mo := mo) (l := l) (hs := hs) h (show k < vs.length by rw [HV.out.1]; exact hk) HT3.out.c.1.len
      have HR0 := Lib.hid (show adjB vs = false → roomOf mo l vs = 0 from fun h => by unfold roomOf; rw [h]; rfl)
      have HRn := Lib.hid (show roomOf mo l vs ≤ n by unfold roomOf; split <;> have := HV.out.1 <;> omega)
      clear d5 t5 hrow HT3
      generalize roomOf mo l vs = R at *
      have HV5 := Lib.hid (HV.out.keep (HB5.out.elim fun _ h => h.two.c.2.1))
      have C := risesAny w5 vo n cv vs HV5.out (by omega)
      clear HV5
      generalize adjB vs = rb at *
      have hnn : ((n : Int) != (n : Int)) = false := by simp
      go_wp2_with fail
      refine C.mono ?_
      clear C
      rintro e w6 ⟨rfl, bl6⟩
      have HB6 := Lib.hid (show TRow w F5 w.heap.size w1.heap.size mo (insMany l vs hs R) (insMany l vs hs (min 0 R)) g (toldB R n) w6 by
        obtain ⟨G, h⟩ := HB5.out
        rw [Nat.zero_min]
        exact ⟨G, h.fresh bl6⟩)
      clear bl6 HB5
      go_wp2
      go_loopw [14] (fun i wr => ∃ k : Nat, k ≤ n ∧ i = .int .i64 k ∧ TRow w F5 w.heap.size w1.heap.size mo (insMany l vs hs R) (insMany l vs hs (min k R)) g (toldB R n) wr) (fun i _ => n - (intOf i).toNat)
      case atStart => exact ⟨0, Nat.zero_le _, rfl, HB6.out⟩
      case round =>
        obtain ⟨k, hk, rfl, G7, t7⟩ := hrel
        clear HB6
        have HB7 := Lib.hid t7
        clear t7
        by_cases hlt : k < n
        · have k0 : (0 : Int) ≤ (k : Int) := by omega
          have cg : wr.cell? ⟨g, k, none⟩ = some (.bool (decide (k < R))) := by
            have h1 := toldB_at (r := R) hlt
            simp [World.cell?, HB7.out.row, h1]
          cases rb with
          | false =>
            obtain rfl : R = 0 := HR0.out rfl
            rw [decide_eq_false (Nat.not_lt_zero k)] at cg
            have HN := Lib.hid (show TRow w F5 w.heap.size w1.heap.size mo (insMany l vs hs 0) (insMany l vs hs (min (k + 1) 0)) g (toldB 0 n) wr by
              rw [show min (k + 1) 0 = min k 0 by omega]
              exact ⟨G7, HB7.out⟩)
            by_cases hkm : k < m
            · obtain ⟨b2, off2, rfl, hbl2, hc2⟩ := HH.out.2 (by omega)
              have ch2 := (HB7.out.two.c.2.1.cell (p := ⟨b2, off2 + k, none⟩) hbl2).trans (hc2 k hkm)
              clear hc2
              generalize hs.getD k 0 = hy at *
              go_wp2
              go_roundw
              case rel => exact ⟨k + 1, by omega, by go_num, HN.out⟩
              case measure => simp [intOf]; omega
            · have hkm2 : ¬ (k : Int) < m := by omega
              go_wp2
              go_roundw
              case rel => exact ⟨k + 1, by omega, by go_num, HN.out⟩
              case measure => simp [intOf]; omega
          | true =>
            obtain ⟨b, off, rfl, hbl, hc⟩ := HV.out.2 (by omega)
            have cz := (HB7.out.two.c.2.1.cell (p := ⟨b, off + k, none⟩) hbl).trans (hc k hlt)
            have C := insertAny HB7.out.two.d.1 (vs.getD k 0) (hs.getD k 1)
            rw [(HStep.out rfl k hlt).1, (HStep.out rfl k hlt).2] at C
            have HC := Lib.hid C
            clear hc C
            have HN := Lib.hid (show ∀ W', Did G7 w1.heap.size mo (insMany l vs hs (min (k + 1) R)) wr W' → TRow w F5 w.heap.size w1.heap.size mo (insMany l vs hs R) (insMany l vs hs (min (k + 1) R)) g (toldB R n) W' ∧ W'.cell? ⟨g, k, none⟩ = some (.bool (decide (k < R))) from fun W' d => by
              obtain ⟨G8, t8⟩ := HB7.out.next d
              refine ⟨⟨G8, t8⟩, ?_⟩
              have h1 := toldB_at (r := R) hlt
              simp [World.cell?, t8.row, h1])
            clear cg
            by_cases hkm : k < m
            · obtain ⟨b2, off2, rfl, hbl2, hc2⟩ := HH.out.2 (by omega)
              have ch2 := (HB7.out.two.c.2.1.cell (p := ⟨b2, off2 + k, none⟩) hbl2).trans (hc2 k hkm)
              rw [show hs.getD k 0 = hs.getD k 1 by simp [List.getD, show k < hs.length by have := HH.out.1; omega]] at ch2
              clear hc2
              generalize vs.getD k 0 = y at *
              generalize hs.getD k 1 = hy at *
              generalize decide (k < R) = tk at *
              go_wp2_with fail
              refine HC.out.mono ?_
              rintro e w8 ⟨rfl, d8⟩
              obtain ⟨h8, cg⟩ := HN.out w8 d8
              have H8 := Lib.hid h8
              clear h8 d8 HN HC
              have tkk : (tk != tk) = false := by simp
              go_wp2
              go_roundw
              case rel => exact ⟨k + 1, by omega, by go_num, H8.out⟩
              case measure => simp [intOf]; omega
            · have hkm2 : ¬ (k : Int) < m := by omega
              rw [show hs.getD k 1 = 1 by simp [List.getD, show hs.length ≤ k by have := HH.out.1; omega]] at HC
              generalize vs.getD k 0 = y at *
              generalize decide (k < R) = tk at *
              go_wp2_with fail
              refine HC.out.mono ?_
              rintro e w8 ⟨rfl, d8⟩
              obtain ⟨h8, cg⟩ := HN.out w8 d8
              have H8 := Lib.hid h8
              clear h8 d8 HN HC
              have tkk : (tk != tk) = false := by simp
              go_wp2
              go_roundw
              case rel => exact ⟨k + 1, by omega, by go_num, H8.out⟩
              case measure => simp [intOf]; omega
        · obtain rfl : n = k := by omega
          have h9 := HB7.out.two
          rw [Nat.min_eq_right HRn.out] at h9
          have HT9 := Lib.hid h9
          clear h9 HB7 HStep
          have hLl : (insMany l vs hs R).length ≤ 1000 := by have := HT9.out.c.1.len; have := HMo.out; omega
          generalize insMany l vs hs R = L at *
          generalize wr = w9 at *
          go_wp2
          go_loopw [17] (fun i wr => ∃ j : Nat, 1 ≤ j ∧ j ≤ 9 ∧ i = .int .i64 j ∧ Two w F5 G7 w.heap.size w1.heap.size mo mo L L wr) (fun i _ => 9 - (intOf i).toNat)
          case atStart => exact ⟨1, by omega, by omega, rfl, HT9.out⟩
          case round =>
            obtain ⟨j, hj1, hj9, rfl, t10⟩ := hrel
            clear HT9
            have HT10 := Lib.hid t10
            clear t10
            by_cases hj8 : j ≤ 8
            · have j8 : (j : Int) ≤ 8 := by omega
              have C := levelR HT10.out.c.1 (j : Int)
              have C2 : ∀ W, Below wr.heap.size wr W → Calls Try.prog 19 #[.pointer (some ⟨w1.heap.size, 0, none⟩), .int .i64 j] W (ToldR W (lvlOf L j)) := fun W hW => levelR (HT10.out.fresh hW).d.1 (j : Int)
              have hxl : (lvlOf L (j : Int)).length ≤ 1000 := Nat.le_trans lvl_le hLl
              have HC2 := Lib.hid C2
              clear C2
              generalize lvlOf L (j : Int) = xs at *
              go_wp2_with fail
              refine C.mono ?_
              clear C
              rintro e w11 ⟨a1, c1, rfl, rx1, _, _, bl11⟩
              have HT11 := Lib.hid (HT10.out.fresh bl11)
              have HX1 := Lib.hid rx1
              have C := HC2.out w11 bl11
              clear rx1 bl11 HT10 HC2
              go_wp2_with fail
              refine C.mono ?_
              clear C
              rintro e w12 ⟨a2, c2, rfl, rx2, _, _, bl12⟩
              have C := sameEq w12 a1 a2 xs.length c1 c2 xs (HX1.out.keep bl12) rx2 hxl
              have HT12 := Lib.hid (HT11.out.fresh bl12)
              clear rx2 bl12 HT11 HX1
              generalize xs.length = nx at *
              go_wp2_with fail
              refine C.mono ?_
              clear C
              rintro e w13 ⟨rfl, bl13⟩
              have HT13 := Lib.hid (HT12.out.fresh bl13)
              clear bl13 HT12
              go_wp2
              go_roundw
              case rel => exact ⟨j + 1, by omega, by omega, by go_num, HT13.out⟩
              case measure => simp [intOf]; omega
            · have j8 : ¬ (j : Int) ≤ 8 := by omega
              have HQ := Lib.hid HT10.out.c.2.1
              clear HT10
              go_wp2
              go_ret
              exact ⟨rfl, HQ.out⟩

set_option maxHeartbeats 4000000 in
theorem ownPair (w : World) (mo : Int) (ao : Option Addr) (la ca : Nat) (zs : List Int) (bo : Option Addr) (lb cb : Nat) (ys : List Int) (hmo : 0 ≤ mo ∧ mo ≤ 1000) (ha : Reads .u8 w ao la zs) (hz : ∀ z ∈ zs, 0 ≤ z ∧ z ≤ 255) (hla : la ≤ 1000) (hb : Reads .u8 w bo lb ys) (hy : ∀ z ∈ ys, 0 ≤ z ∧ z ≤ 255) :
    Calls Try.prog 22 #[.int .i64 mo, .slice ao la ca, .slice bo lb cb] w fun e w' => e = .returned (.bool true) ∧ Below w.heap.size w w' := by
  have HA := Lib.hid ha
  have HZ := Lib.hid hz
  have C := risingAny w bo lb cb ys hb hy
  clear ha hz hb hy
  go_enter Try.func22, Try.ntmps22
  go_wp2_with fail
  refine C.mono ?_
  clear C
  rintro e w2 ⟨va, nv, capv, ha, nh, caph, vs, hs, rfl, rv, rh, cv, ch, n20, n15, nv1, nh1, bl2⟩
  have C := batchPair w2 mo ao la ca zs va ha nv capv nh caph vs hs hmo (HA.out.keep bl2) HZ.out hla rv cv rh (by omega) (by omega)
  have HB := Lib.hid bl2
  clear rv rh nv1 nh1 bl2
  go_wp2_with fail
  refine C.mono ?_
  clear C
  rintro e w3 ⟨rfl, bl3⟩
  have HQ := Lib.hid (HB.out.trans (bl3.mono HB.out.size))
  clear bl3 HB
  go_wp2
  go_ret
  exact ⟨rfl, HQ.out⟩

set_option maxHeartbeats 4000000 in
theorem batchWalk {w : World} (a : Int) (ao : Option Addr) (la ca : Nat) (zs : List Int) (bo : Option Addr) (lb cb : Nat) (ys : List Int) (vo : Option Addr) (n cv : Nat) (vs : List Int) (ho : Option Addr) (m ch : Nat) (hs : List Int) (a0 : 0 ≤ a) (a1 : a ≤ 255) (ha : ArgBytes w ao la ca zs) (hla : la ≤ 140737488351232) (hb : ArgBytes w bo lb cb ys) (hlb : lb ≤ 140737488351232)
    (hv : ArgInt32s w vo n cv vs) (hlv : n ≤ 140737488351232) (hh : ArgInts w ho m ch hs) (hlh : m ≤ 140737488351232) :
    Calls Try.prog 6 #[.int .u8 a, .slice ao la ca, .slice bo lb cb, .slice vo n cv, .slice ho m ch] w fun e w' => e = .returned (.bool true) ∧ Below w.heap.size w w' := by
  obtain ⟨ha, _, _, haz⟩ := ha
  obtain ⟨hb, _, _, hbz⟩ := hb
  obtain ⟨hv, hcv, _, _⟩ := hv
  obtain ⟨hh, _, _⟩ := hh
  have HA := Lib.hid (And.intro ha haz)
  have HB := Lib.hid (And.intro hb hbz)
  have HV := Lib.hid (And.intro hv hcv)
  have HH := Lib.hid hh
  have hmo : 0 ≤ a % 30 ∧ a % 30 ≤ 1000 := by omega
  clear ha haz hb hbz hv hcv hh
  go_enter Try.func6, Try.ntmps6
  by_cases hbig : 200 < la + lb + n + m
  · have hbig2 : (200 : Int) < (la : Int) + lb + n + m := by omega
    go_wp2_with fail
    refine (known w).mono ?_
    rintro e w2 ⟨rfl, bl2⟩
    have HQ := Lib.hid bl2
    clear bl2
    go_wp2
    go_ret
    exact ⟨rfl, HQ.out⟩
  · have hbig2 : ¬ (200 : Int) < (la : Int) + lb + n + m := by omega
    go_wp2_with fail
    refine (known w).mono ?_
    rintro e w2 ⟨rfl, bl2⟩
    have HB2 := Lib.hid bl2
    clear bl2
    have C := batchPair w2 (a % 30) ao la ca zs vo ho n cv m ch vs hs hmo (HA.out.1.keep HB2.out) HA.out.2 (by omega) (HV.out.1.keep HB2.out) HV.out.2 (HH.out.keep HB2.out) (by omega) (by omega)
    go_wp2_with fail
    refine C.mono ?_
    clear C
    rintro e w3 ⟨rfl, bl3⟩
    have HB3 := Lib.hid (HB2.out.trans (bl3.mono HB2.out.size))
    clear bl3 HB2
    have C := ownPair w3 (a % 30) ao la ca zs bo lb cb ys hmo (HA.out.1.keep HB3.out) HA.out.2 (by omega) (HB.out.1.keep HB3.out) HB.out.2
    go_wp2_with fail
    refine C.mono ?_
    clear C
    rintro e w4 ⟨rfl, bl4⟩
    have HQ := Lib.hid (HB3.out.trans (bl4.mono HB3.out.size))
    clear bl4 HB3
    go_wp2
    go_ret
    exact ⟨rfl, HQ.out⟩

end Go.Proofs.Ytjcdbdhdmalfaaa
