/-
  What reaperref07's Batch and Level tell, and vals. Conditions: a list of at most a thousand items, and numbers, that lie in memory.
-/
import Derived.Test.YtjcdbdhdmalfaaaRefIns7
namespace Go.Proofs.Ytjcdbdhdmalfaaa
open Go.RowKit

theorem toldB_put {R n k : Nat} (h : k < n) : (toldB (min k R) n).set k (decide (k < R)) = toldB (min (k + 1) R) n := by
  by_cases e : k < R
  · rw [show min k R = k by omega, show min (k + 1) R = k + 1 by omega, decide_eq_true e]
    exact toldB_set h
  · rw [show min k R = R by omega, show min (k + 1) R = R by omega, decide_eq_false e]
    refine List.ext_getElem? fun i => ?_
    by_cases hi : k = i
    · subst hi
      rw [toldB_at h, decide_eq_false e, List.getElem?_set_self (by rw [toldB_length (by omega)]; exact h)]
    · rw [List.getElem?_set_ne hi]

/-- What Batch of the document tells. -/
def BatPost (w : World) (ao : Option Addr) (mo : Int) (l : List It) (vs hs : List Int) (n : Nat) (e : Ending) (w' : World) : Prop :=
  ∃ ao' cap' g, e = .returned (.tuple #[.slice ao' (insMany l vs hs (roomOf mo l vs)).length cap', .slice (some ⟨g, 0, none⟩) n n]) ∧ ItemsAt w' ao' (insMany l vs hs (roomOf mo l vs)).length (insMany l vs hs (roomOf mo l vs)) ∧ (insMany l vs hs (roomOf mo l vs)).length ≤ cap' ∧
    ((ao' = ao ∧ insMany l vs hs (roomOf mo l vs) = l) ∨ ∀ a, ao' = some a → w.heap.size ≤ a.block) ∧ w.heap.size ≤ g ∧ w'.heap[g]? = some (.cells ((toldB (roomOf mo l vs) n).map Value.bool).toArray 4 (0, 0)) ∧ Below w.heap.size w w'

/-- What holds between two rounds. -/
def RB (w : World) (ao : Option Addr) (l : List It) (vs hs : List Int) (R n k : Nat) (v : Value) (W : World) : Prop :=
  ∃ ao' cap', v = .slice ao' (insMany l vs hs (min k R)).length cap' ∧ ItemsAt W ao' (insMany l vs hs (min k R)).length (insMany l vs hs (min k R)) ∧ (insMany l vs hs (min k R)).length ≤ cap' ∧
    ((ao' = ao ∧ insMany l vs hs (min k R) = l) ∨ ∀ a, ao' = some a → w.heap.size ≤ a.block) ∧ (0 < (insMany l vs hs (min k R)).length → ∀ a, ao' = some a → a.block ≠ w.heap.size) ∧ W.heap[w.heap.size]? = some (.cells ((toldB (min k R) n).map Value.bool).toArray 4 (0, 0)) ∧ Below w.heap.size w W

theorem RB.start {w w1 : World} {ao : Option Addr} {l : List It} {vs hs : List Int} {R n m cap : Nat} (h : ItemsAt w ao m l) (hc : m ≤ cap) (hm : w1.heap[w.heap.size]? = some (.cells ((toldB 0 n).map Value.bool).toArray 4 (0, 0)) ∧ Below w.heap.size w w1) : RB w ao l vs hs R n 0 (.slice ao m cap) w1 := by
  have hl := h.1
  subst hl
  unfold RB
  rw [Nat.zero_min]
  exact ⟨_, _, rfl, h.keep hm.2, hc, .inl ⟨rfl, rfl⟩, fun hp a e => by have := h.lt hp a e; omega, hm.1, hm.2⟩

theorem RB.step {w W W2 w3 : World} {ao ao1 : Option Addr} {l : List It} {vs hs : List Int} {R n k cap1 : Nat} {mo : Int} {t : It} {e : Ending} (h : RB w ao l vs hs R n k (.slice ao1 (insMany l vs hs (min k R)).length cap1) W) (hb : Below W.heap.size W W2) (hk : k < n)
    (h1 : insL mo (insMany l vs hs (min k R)) t = insMany l vs hs (min (k + 1) R)) (h2 : decide (((insMany l vs hs (min k R)).length : Int) < mo) = decide (k < R)) (hp : InsPost W2 ao1 mo (insMany l vs hs (min k R)) t e w3) :
    ∃ v, e = .returned (.tuple #[v, .bool (decide (k < R))]) ∧ w3.cell? ⟨w.heap.size, k, none⟩ = some (.bool (decide (k < min k R))) ∧ w3.frozen? ⟨w.heap.size, k, none⟩ = false ∧ RB w ao l vs hs R n (k + 1) v (w3.setCell ⟨w.heap.size, k, none⟩ (.bool (decide (k < R)))) := by
  obtain ⟨ao0, cap0, hv, hi, hc, hold, hne, hrow, hbe⟩ := h
  injection hv with r1 _ r2
  subst r1 r2
  obtain ⟨ao', cap', he, hi', hc', hold', hb'⟩ := hp
  rw [h1] at he hi' hc' hold'
  rw [h2] at he
  have hg : w.heap.size < W.heap.size := lt_of_block hrow
  have hg2 : w.heap.size < W2.heap.size := Nat.lt_of_lt_of_le hg hb.size
  have row3 : w3.heap[w.heap.size]? = some (.cells ((toldB (min k R) n).map Value.bool).toArray 4 (0, 0)) := (hb'.block _ hg2).trans ((hb.block _ hg).trans hrow)
  have hw : Wrote (fun x => x = w.heap.size) w3 (w3.setCell ⟨w.heap.size, k, none⟩ (.bool (decide (k < R)))) := (Wrote.refl (fun x => x = w.heap.size) w3).setCell (.inr (show (⟨w.heap.size, k, none⟩ : Addr).block = w.heap.size from rfl)) _
  have hne' : 0 < (insMany l vs hs (min (k + 1) R)).length → ∀ a, ao' = some a → a.block ≠ w.heap.size := fun hp a ea => by
    rcases hold' with ⟨rfl, ee⟩ | hn
    · rw [ee] at hp
      exact hne hp a ea
    · have := hn a ea
      omega
  refine ⟨_, he, by simp [World.cell?, row3, toldB_at hk], by simp [World.frozen?, row3], ao', cap', rfl, hi'.off (fun hp a ea => hne' hp a ea) hw, hc', ?_, hne', ?_, ?_⟩
  · rcases hold' with ⟨rfl, ee⟩ | hn
    · rcases hold with ⟨rfl, e2⟩ | hn2
      · exact .inl ⟨rfl, ee.trans e2⟩
      · exact .inr hn2
    · exact .inr fun a ea => by have := hn a ea; omega
  · rw [set_block row3 k _, ← toldB_put hk]
    congr 2
    simp
  · have b3 : Below w.heap.size w w3 := (hbe.trans (hb.mono hbe.size)).trans (hb'.mono (Nat.le_of_lt hg2))
    exact b3.trans (hw.below b3.size fun x e => by omega)

set_option maxRecDepth 100000 in
set_option maxHeartbeats 8000000 in
theorem refBatch (w : World) (most : Int) (ao : Option Addr) (ln cap : Nat) (l : List It) (vo ho : Option Addr) (n cv m ch : Nat) (vs hs : List Int) (h : ItemsAt w ao ln l) (hl : (ln : Int) ≤ mostOf most) (hcap : ln ≤ cap) (hv : Reads .i32 w vo n vs) (hh : Reads .i64 w ho m hs) (hn : n ≤ 1000) (hm : m ≤ 1000) :
    Calls Try.prog 36 #[.int .i64 most, .slice ao ln cap, .slice vo n cv, .slice ho m ch] w (BatPost w ao (mostOf most) l vs hs n) := by
  obtain ⟨i0, hi, hz0, hz1, hz2⟩ := info_parts infoBool
  have HI := Lib.hid h
  have HV := Lib.hid hv
  have HH := Lib.hid hh
  have HMo := Lib.hid (mostOf_in most)
  have HC : Hid (∀ (W : World) (ao : Option Addr) (n cap : Nat) (l : List It) (x hv : Int), ItemsAt W ao n l → n ≤ 1000 → n ≤ cap → Calls Try.prog 35 #[.int .i64 most, .slice ao n cap, .int .i32 x, .int .i64 hv] W (InsPost W ao (mostOf most) l ⟨x, hOf hv⟩)) := Lib.hid fun W ao n cap l x hv h1 h2 h3 => refInsert W most ao n cap l x hv h1 h2 h3
  have HLn := Lib.hid (show (l.length : Int) ≤ mostOf most by rw [h.1]; exact hl)
  have HStep : Hid (adjB vs = true → ∀ k, k < n → _) := Lib.hid fun h k (hk : k < n) => insStep (mo := mostOf most) (l := l) (hs := hs) h (show k < vs.length by rw [hv.1]; exact hk) HLn.out
  have HR0 := Lib.hid (show adjB vs = false → roomOf (mostOf most) l vs = 0 from fun h => by unfold roomOf; rw [h]; rfl)
  have HRn := Lib.hid (show roomOf (mostOf most) l vs ≤ n ∧ (l.length : Int) + roomOf (mostOf most) l vs ≤ 1000 by unfold roomOf; have := hv.1; have := HMo.out; have := HLn.out; split <;> omega)
  unfold BatPost
  clear h hl hv hh
  generalize mostOf most = mo at *
  generalize roomOf mo l vs = R at *
  have C : Hid (∀ W, Below w.heap.size w W → Calls Try.prog 34 #[.slice vo n cv] W fun e w' => e = .returned (.bool (adjB vs)) ∧ Below W.heap.size W w') := Lib.hid fun W hW => risesAny W vo n cv vs (HV.out.keep hW) (by omega)
  generalize adjB vs = rb at *
  go_enter Try.func36, Try.ntmps36
  go_wp2_with (at_make; refine wpList_make_full _ rfl _ _ 40 rfl w.heap.size 4 i0 _ 1 Try.underlying40 hi hz0 hz1 .i64 .i64 _ _ n rfl rfl rfl rfl (by rw [hz2]; omega) (by simp only [maxLen]; omega) (Nat.le_refl _) ?_; intro w1 hown1 hgrow1; have HM := Lib.hid (madeBools hown1 hgrow1); clear hown1 hgrow1)
  have HB1 := Lib.hid (RB.start (vs := vs) (hs := hs) (R := R) HI.out hcap HM.out)
  clear HM hcap
  go_loopw [1, 11] (fun v i wr => ∃ k : Nat, k ≤ n ∧ i = .int .i64 k ∧ RB w ao l vs hs R n k v wr) (fun _ i _ => n - (intOf i).toNat)
  case atStart => exact ⟨0, Nat.zero_le _, rfl, HB1.out⟩
  case round =>
    obtain ⟨k, hk, rfl, ao1, cap1, rfl, hrb⟩ := hrel
    clear HB1
    have HB2 := Lib.hid (show RB w ao l vs hs R n k (.slice ao1 (insMany l vs hs (min k R)).length cap1) wr from ⟨ao1, cap1, rfl, hrb⟩)
    have HX := Lib.hid hrb
    clear hrb
    have k0 : (0 : Int) ≤ (k : Int) := by omega
    by_cases hlt : k < n
    · cases rb with
      | false =>
        have C1 := C.out wr HX.out.2.2.2.2.2
        obtain rfl : R = 0 := HR0.out rfl
        have hln : (insMany l vs hs (min k 0)) = insMany l vs hs 0 := by rw [Nat.min_zero]
        go_wp2_with fail
        refine C1.mono ?_
        clear C1
        rintro e w3 ⟨rfl, bl3⟩
        have HQ := Lib.hid (show ItemsAt w3 ao1 (insMany l vs hs 0).length (insMany l vs hs 0) ∧ (insMany l vs hs 0).length ≤ cap1 ∧ ((ao1 = ao ∧ insMany l vs hs 0 = l) ∨ ∀ a, ao1 = some a → w.heap.size ≤ a.block) ∧ w3.heap[w.heap.size]? = some (.cells ((toldB 0 n).map Value.bool).toArray 4 (0, 0)) ∧ Below w.heap.size w w3 by
          obtain ⟨q1, q2, q3, _, q5, q6⟩ := HX.out
          rw [Nat.min_zero] at q1 q2 q3 q5
          exact ⟨q1.keep bl3, q2, q3, (bl3.block _ (lt_of_block q5)).trans q5, q6.trans (bl3.mono q6.size)⟩)
        rw [hln] at *
        clear bl3 HB2 HX HC HStep hln
        go_wp2
        go_ret2
        exact ⟨_, _, _, rfl, HQ.out.1, HQ.out.2.1, HQ.out.2.2.1, Nat.le_refl _, HQ.out.2.2.2.1, HQ.out.2.2.2.2⟩
      | true =>
        have C1 := C.out wr HX.out.2.2.2.2.2
        obtain ⟨s1, s2⟩ := HStep.out rfl k hlt
        have HS := Lib.hid (And.intro s1 s2)
        clear s1 s2
        obtain ⟨b, off, rfl, hbl, hc⟩ := HV.out.2 (by omega)
        have cz := (HX.out.2.2.2.2.2.cell (p := ⟨b, off + k, none⟩) hbl).trans (hc k hlt)
        clear hc
        have HLen := Lib.hid (show (insMany l vs hs (min k R)).length ≤ 1000 by have := insMany_length l vs hs (min k R); have := HRn.out; omega)
        by_cases hkm : k < m
        · obtain ⟨b2, off2, rfl, hbl2, hc2⟩ := HH.out.2 (by omega)
          have ch2 := (HX.out.2.2.2.2.2.cell (p := ⟨b2, off2 + k, none⟩) hbl2).trans (hc2 k hkm)
          rw [show hs.getD k 0 = hs.getD k 1 by simp [List.getD, show k < hs.length by have := HH.out.1; omega]] at ch2
          have HCs := Lib.hid (And.intro (World.block_lt_of_cell? _ _ cz) (World.block_lt_of_cell? _ _ ch2))
          clear hc2
          generalize vs.getD k 0 = y at *
          generalize hs.getD k 1 = hy at *
          go_wp2_with fail
          refine C1.mono ?_
          clear C1
          rintro e w3 ⟨rfl, bl3⟩
          have cz3 := (bl3.cell (p := ⟨b, off + k, none⟩) HCs.out.1).trans cz
          have ch3 := (bl3.cell (p := ⟨b2, off2 + k, none⟩) HCs.out.2).trans ch2
          have HB3 := Lib.hid bl3
          have C1 := HC.out w3 ao1 _ cap1 _ y hy (HX.out.1.keep bl3) HLen.out HX.out.2.1
          have HN : Hid (∀ e W, InsPost w3 ao1 mo (insMany l vs hs (min k R)) ⟨y, hOf hy⟩ e W → _) := Lib.hid fun e W (hp : InsPost w3 ao1 mo (insMany l vs hs (min k R)) ⟨y, hOf hy⟩ e W) => HB2.out.step HB3.out hlt HS.out.1 HS.out.2 hp
          clear cz ch2 bl3 HB2 HX HS HB3
          generalize (insMany l vs hs (min k R)).length = nl at *
          go_wp2_with fail
          refine C1.mono ?_
          clear C1
          intro e w4 hp
          obtain ⟨v4, he, cg, fg, hb4⟩ := HN.out e w4 hp
          subst he
          have HB4 := Lib.hid hb4
          clear hp hb4 HN cz3 ch3
          go_wp2
          go_roundw
          case rel => exact ⟨k + 1, by omega, by go_num, HB4.out⟩
          case measure => simp [intOf]; omega
        · have hkm2 : ¬ (k : Int) < m := by omega
          rw [show hs.getD k 1 = 1 by simp [List.getD, show hs.length ≤ k by have := HH.out.1; omega]] at HS
          have HCs := Lib.hid (World.block_lt_of_cell? _ _ cz)
          generalize vs.getD k 0 = y at *
          go_wp2_with fail
          refine C1.mono ?_
          clear C1
          rintro e w3 ⟨rfl, bl3⟩
          have cz3 := (bl3.cell (p := ⟨b, off + k, none⟩) HCs.out).trans cz
          have HB3 := Lib.hid bl3
          have C1 := HC.out w3 ao1 _ cap1 _ y 1 (HX.out.1.keep bl3) HLen.out HX.out.2.1
          have HN : Hid (∀ e W, InsPost w3 ao1 mo (insMany l vs hs (min k R)) ⟨y, hOf 1⟩ e W → _) := Lib.hid fun e W (hp : InsPost w3 ao1 mo (insMany l vs hs (min k R)) ⟨y, hOf 1⟩ e W) => HB2.out.step HB3.out hlt HS.out.1 HS.out.2 hp
          clear cz bl3 HB2 HX HS HB3
          generalize (insMany l vs hs (min k R)).length = nl at *
          go_wp2_with fail
          refine C1.mono ?_
          clear C1
          intro e w4 hp
          obtain ⟨v4, he, cg, fg, hb4⟩ := HN.out e w4 hp
          subst he
          have HB4 := Lib.hid hb4
          clear hp hb4 HN cz3
          go_wp2
          go_roundw
          case rel => exact ⟨k + 1, by omega, by go_num, HB4.out⟩
          case measure => simp [intOf]; omega
    · obtain rfl : n = k := by omega
      have HQ := Lib.hid (show ItemsAt wr ao1 (insMany l vs hs R).length (insMany l vs hs R) ∧ (insMany l vs hs R).length ≤ cap1 ∧ ((ao1 = ao ∧ insMany l vs hs R = l) ∨ ∀ a, ao1 = some a → w.heap.size ≤ a.block) ∧ wr.heap[w.heap.size]? = some (.cells ((toldB R n).map Value.bool).toArray 4 (0, 0)) ∧ Below w.heap.size w wr by
        obtain ⟨q1, q2, q3, _, q5, q6⟩ := HX.out
        rw [Nat.min_eq_right HRn.out.1] at q1 q2 q3 q5
        exact ⟨q1, q2, q3, q5, q6⟩)
      have hmin : min n R = R := Nat.min_eq_right HRn.out.1
      rw [hmin]
      clear HB2 HX HC HStep hmin
      go_wp2
      go_ret2
      exact ⟨_, _, _, rfl, HQ.out.1, HQ.out.2.1, HQ.out.2.2.1, Nat.le_refl _, HQ.out.2.2.2.1, HQ.out.2.2.2.2⟩

theorem lvl_take_in {l : List It} {k : Nat} {lv : Int} (hk : k < l.length) (h : 1 ≤ lv ∧ lv ≤ ((l.getD k ⟨0, 0⟩).h : Int)) : lvlOf (l.take (k + 1)) lv = lvlOf (l.take k) lv ++ [(l.getD k ⟨0, 0⟩).v] := by
  have e : l.getD k ⟨0, 0⟩ = l[k] := by simp [List.getD, hk]
  rw [e] at h ⊢
  unfold lvlOf
  rw [List.take_succ_eq_append_getElem hk, List.filter_append, List.map_append]
  simp [h]
theorem lvl_take_out {l : List It} {k : Nat} {lv : Int} (hk : k < l.length) (h : ¬ (1 ≤ lv ∧ lv ≤ ((l.getD k ⟨0, 0⟩).h : Int))) : lvlOf (l.take (k + 1)) lv = lvlOf (l.take k) lv := by
  have e : l.getD k ⟨0, 0⟩ = l[k] := by simp [List.getD, hk]
  rw [e] at h
  unfold lvlOf
  rw [List.take_succ_eq_append_getElem hk, List.filter_append, List.map_append]
  simp only [List.filter_cons, List.filter_nil, decide_eq_false h]
  simp
theorem val_take {l : List It} {k : Nat} (hk : k < l.length) : (l.take (k + 1)).map It.v = (l.take k).map It.v ++ [(l.getD k ⟨0, 0⟩).v] := by
  have e : l.getD k ⟨0, 0⟩ = l[k] := by simp [List.getD, hk]
  rw [e, List.take_succ_eq_append_getElem hk, List.map_append]
  rfl

/-- Numbers in a row of one's own. -/
def NumsOwn (w : World) (zs : List Int) (v : Value) (W : World) : Prop := W.ownsRow w.heap.size 21 1 v zs.length (zs.map (Value.int .i32)) ∧ Below w.heap.size w W
theorem NumsOwn.none (w : World) : NumsOwn w [] (.slice none 0 0) w := ⟨World.ownsRow_nil _ _ _ _, Below.refl _ _⟩
theorem NumsOwn.more {w W w4 : World} {zs zs' : List Int} {y : Int} {v v' : Value} {o : Obj} (h : NumsOwn w zs v W) (e : zs' = zs ++ [y]) (q : w4.ownsRow w.heap.size 21 1 v' (zs.length + 1) (zs.map (Value.int .i32) ++ [.int .i32 y])) (g : (W.alloc o).grownBy w4 v.ownBlock) : NumsOwn w zs' v' w4 := by
  subst e
  refine ⟨by simpa using q, (h.2.alloc h.2.size o).grown g (Nat.le_trans h.2.size (by simp)) (fun k e => (h.1.lt k e).1)⟩
theorem NumsOwn.told {w W : World} {zs : List Int} {v : Value} (h : NumsOwn w zs v W) : ToldR w zs (.returned v) W := by
  obtain ⟨ao, cap, rfl, h1, h2, h3⟩ := reads_own h.1
  exact ⟨ao, cap, rfl, h1, h2, h3, h.2⟩

set_option maxHeartbeats 8000000 in
theorem refLevel (w : World) (ao : Option Addr) (n cap : Nat) (l : List It) (lv : Int) (h : ItemsAt w ao n l) (hn : n ≤ 1000) :
    Calls Try.prog 37 #[.slice ao n cap, .int .i64 lv] w (ToldR w (lvlOf l lv)) := by
  obtain ⟨i0, hi, hz0, hz1, hz2⟩ := info_parts infoI32
  have HI := Lib.hid h
  have HL := Lib.hid h.1
  clear h
  go_enter Try.func37, Try.ntmps37
  go_wp2
  go_loopw [5, 6] (fun v i wr => ∃ k : Nat, k ≤ n ∧ i = .int .i64 k ∧ NumsOwn w (lvlOf (l.take k) lv) v wr) (fun _ i _ => n - (intOf i).toNat)
  case atStart => exact ⟨0, Nat.zero_le _, rfl, NumsOwn.none w⟩
  case round =>
    obtain ⟨k, hk, rfl, hN⟩ := hrel
    obtain ⟨a1, cp1, rfl⟩ := ownShape hN.1
    have HN := Lib.hid hN
    clear hN
    have k0 : (0 : Int) ≤ (k : Int) := by omega
    by_cases hlt : k < n
    · have hkl : k < l.length := by rw [HL.out]; exact hlt
      obtain ⟨b, off, rfl, hbl, hc⟩ := HI.out.2 (by omega)
      have c0 := (HN.out.2.cell (p := ⟨b, _, none⟩) hbl).trans (hc _ _ (flatI_at l k hkl).1)
      have c1 : wr.cell? ⟨b, off + k * 2 + 1, none⟩ = _ := (HN.out.2.cell (p := ⟨b, _, none⟩) hbl).trans (hc _ _ (flatI_at l k hkl).2)
      have HLk := Lib.hid (show (lvlOf (l.take k) lv).length ≤ 1000 from Nat.le_trans lvl_le (by rw [List.length_take]; omega))
      by_cases hin : 1 ≤ lv ∧ lv ≤ ((l.getD k ⟨0, 0⟩).h : Int)
      · have HE := Lib.hid (lvl_take_in hkl hin)
        obtain ⟨hin1, hin2⟩ := hin
        have HNb := Lib.hid HN.out.2
        have hbl2 := Nat.lt_of_lt_of_le hbl HN.out.2.size
        clear hc hkl hbl
        generalize (l.getD k ⟨0, 0⟩).v = y at *
        generalize ((l.getD k ⟨0, 0⟩).h : Int) = hh at *
        go_wp2_with (at_builtin; go_loud (refine wpList_append_own _ rfl _ _ 26 rfl w.heap.size 21 i0 _ 1 4 Try.underlying26 hi hz0 hz1 hz2 rfl (by decide) _ _ _ rfl (HN.out.1.alloc _) ⟨wr.heap.size, 0, none⟩ 1 1 [.int .i32 y] rfl rfl (cell_one_new _ _ _) (by simp [Value.oneCell']) (by have := HLk.out; simp only [maxLen]; omega) (by have := HLk.out; omega) (Nat.le_trans HNb.out.size (by simp)) ?_; intro v' w4 q4 g4 _; have H4 := Lib.hid (HN.out.more HE.out q4 g4); obtain ⟨a4, c4, rfl⟩ := ownShape q4; clear q4 g4))
        go_roundw
        case rel => exact ⟨k + 1, by omega, by go_num, H4.out⟩
        case measure => simp [intOf]; omega
      · have HE := Lib.hid (lvl_take_out hkl hin)
        have H4 := Lib.hid (show NumsOwn w (lvlOf (l.take (k + 1)) lv) (.slice a1 (lvlOf (l.take k) lv).length cp1) wr by rw [HE.out]; exact HN.out)
        clear hc hkl hbl
        generalize (lvlOf (l.take k) lv).length = nl at *
        generalize ((l.getD k ⟨0, 0⟩).h : Int) = hh at *
        by_cases h1 : 1 ≤ lv
        · have h2 : ¬ lv ≤ hh := fun e => hin ⟨h1, e⟩
          clear hin
          go_wp2
          go_roundw
          case rel => exact ⟨k + 1, by omega, by go_num, H4.out⟩
          case measure => simp [intOf]; omega
        · clear hin
          go_wp2
          go_roundw
          case rel => exact ⟨k + 1, by omega, by go_num, H4.out⟩
          case measure => simp [intOf]; omega
    · obtain rfl : n = k := by omega
      rw [show l.take n = l from List.take_of_length_le (by rw [HL.out]; exact Nat.le_refl _)] at HN ⊢
      have HQ := Lib.hid HN.out.told
      clear HN
      go_wp2
      go_ret
      exact HQ.out

set_option maxHeartbeats 8000000 in
theorem refVals (w : World) (ao : Option Addr) (n cap : Nat) (l : List It) (h : ItemsAt w ao n l) (hn : n ≤ 1000) :
    Calls Try.prog 38 #[.slice ao n cap] w (ToldR w (l.map It.v)) := by
  obtain ⟨i0, hi, hz0, hz1, hz2⟩ := info_parts infoI32
  have HI := Lib.hid h
  have HL := Lib.hid h.1
  clear h
  go_enter Try.func38, Try.ntmps38
  go_wp2
  go_loopw [3, 4] (fun v i wr => ∃ k : Nat, k ≤ n ∧ i = .int .i64 k ∧ NumsOwn w ((l.take k).map It.v) v wr) (fun _ i _ => n - (intOf i).toNat)
  case atStart => exact ⟨0, Nat.zero_le _, rfl, NumsOwn.none w⟩
  case round =>
    obtain ⟨k, hk, rfl, hN⟩ := hrel
    obtain ⟨a1, cp1, rfl⟩ := ownShape hN.1
    have HN := Lib.hid hN
    clear hN
    have k0 : (0 : Int) ≤ (k : Int) := by omega
    by_cases hlt : k < n
    · have hkl : k < l.length := by rw [HL.out]; exact hlt
      obtain ⟨b, off, rfl, hbl, hc⟩ := HI.out.2 (by omega)
      have c0 := (HN.out.2.cell (p := ⟨b, _, none⟩) hbl).trans (hc _ _ (flatI_at l k hkl).1)
      have HLk := Lib.hid (show ((l.take k).map It.v).length ≤ 1000 by rw [List.length_map, List.length_take]; omega)
      have HE := Lib.hid (val_take hkl)
      have HNb := Lib.hid HN.out.2
      clear hc hkl
      generalize (l.getD k ⟨0, 0⟩).v = y at *
      generalize (l.take k).map It.v = zs at *
      go_wp2_with (at_builtin; go_loud (refine wpList_append_own _ rfl _ _ 26 rfl w.heap.size 21 i0 _ 1 4 Try.underlying26 hi hz0 hz1 hz2 rfl (by decide) _ _ _ rfl (HN.out.1.alloc _) ⟨wr.heap.size, 0, none⟩ 1 1 [.int .i32 y] rfl rfl (cell_one_new _ _ _) (by simp [Value.oneCell']) (by have := HLk.out; simp only [maxLen]; omega) (by have := HLk.out; omega) (Nat.le_trans HNb.out.size (by simp)) ?_; intro v' w4 q4 g4 _; have H4 := Lib.hid (HN.out.more HE.out q4 g4); obtain ⟨a4, c4, rfl⟩ := ownShape q4; clear q4 g4))
      go_roundw
      case rel => exact ⟨k + 1, by omega, by go_num, H4.out⟩
      case measure => simp [intOf]; omega
    · obtain rfl : n = k := by omega
      rw [show l.take n = l from List.take_of_length_le (by rw [HL.out]; exact Nat.le_refl _)] at HN ⊢
      have HQ := Lib.hid HN.out.told
      clear HN
      go_wp2
      go_ret
      exact HQ.out

/-- A list, and the document's beside it. -/
structure Duo (w : World) (F : Nat → Prop) (p : Nat) (mo : Int) (l : List It) (ao : Option Addr) (cap : Nat) (W : World) : Prop where
  at_ : At w F p mo l W
  it : ItemsAt W ao l.length l
  cap : l.length ≤ cap
  off : 0 < l.length → Off F ao

section
variable {w W W' : World} {F : Nat → Prop} {p q : Nat} {mo : Int} {l l' : List It} {ao ao' : Option Addr} {cap cap' : Nat}
theorem Duo.fresh (h : Duo w F p mo l ao cap W) (hb : Below W.heap.size W W') : Duo w F p mo l ao cap W' := ⟨h.at_.fresh hb, h.it.keep hb, h.cap, h.off⟩

/-- The document's list beside a list that has other items. -/
structure Half (w : World) (F : Nat → Prop) (p : Nat) (mo : Int) (l : List It) (l' : List It) (ao : Option Addr) (cap : Nat) (W : World) : Prop where
  at_ : At w F p mo l W
  it : ItemsAt W ao l'.length l'
  cap : l'.length ≤ cap
  off : 0 < l'.length → Off F ao

theorem Half.fresh (h : Half w F p mo l l' ao cap W) (hb : Below W.heap.size W W') : Half w F p mo l l' ao cap W' := ⟨h.at_.fresh hb, h.it.keep hb, h.cap, h.off⟩
theorem Half.whole (h : Half w F p mo l l' ao cap W) (d : Did F p mo l' W W') : ∃ F', Duo w F' p mo l' ao cap W' ∧ Wrote F W W' ∧ Later F F' W := by
  obtain ⟨F', k, wr, lt⟩ := h.at_.next d
  exact ⟨F', ⟨k, h.it.off h.off wr, h.cap, fun hp x e hf => lt.not (h.off hp x e) (h.it.lt hp x e) hf⟩, wr, lt⟩
theorem Duo.half (h : Duo w F p mo l ao cap W) (hb : Below W.heap.size W W') (hi : ItemsAt W' ao' l'.length l') (hc : l'.length ≤ cap') (ho : (ao' = ao ∧ l' = l) ∨ ∀ a, ao' = some a → W.heap.size ≤ a.block) : Half w F p mo l l' ao' cap' W' := by
  refine ⟨h.at_.fresh hb, hi, hc, fun hp x e hf => ?_⟩
  rcases ho with ⟨rfl, rfl⟩ | ho
  · exact h.off hp x e hf
  · have h1 := ho x e
    have h2 := h.at_.lt _ hf
    omega
end

/-- All levels and all items of both are asked. -/
theorem alikeDuo (w : World) {w0 : World} {F : Nat → Prop} {p : Nat} {mo : Int} {l : List It} {ao : Option Addr} {cap : Nat} (h : Duo w0 F p mo l ao cap w) :
    Calls Try.prog 27 #[.pointer (some ⟨p, 0, none⟩), .slice ao l.length cap] w fun e w' => e = .returned (.bool true) ∧ Below w.heap.size w w' := by
  have H := Lib.hid h
  have hl : l.length ≤ 1000 := by have h1 := h.at_.1.len; have h2 := h.at_.1.mo; omega
  have HN := Lib.hid hl
  clear h
  have HCs : Hid (∀ W, Below w.heap.size w W → ∀ k : Int, Calls Try.prog 19 #[.pointer (some ⟨p, 0, none⟩), .int .i64 k] W (ToldR W (lvlOf l k))) := Lib.hid fun W hW k => levelR (H.out.fresh hW).at_.1 k
  have HCr : Hid (∀ W, Below w.heap.size w W → ∀ k : Int, Calls Try.prog 37 #[.slice ao l.length cap, .int .i64 k] W (ToldR W (lvlOf l k))) := Lib.hid fun W hW k => refLevel W ao _ cap l k (H.out.fresh hW).it HN.out
  have HCi : Hid (∀ W, Below w.heap.size w W → Calls Try.prog 18 #[.pointer (some ⟨p, 0, none⟩)] W (ToldR W (l.map It.v))) := Lib.hid fun W hW => itemsR (H.out.fresh hW).at_.1
  have HCv : Hid (∀ W, Below w.heap.size w W → Calls Try.prog 38 #[.slice ao l.length cap] W (ToldR W (l.map It.v))) := Lib.hid fun W hW => refVals W ao _ cap l (H.out.fresh hW).it HN.out
  have HCl : Hid (∀ W, Below w.heap.size w W → Calls Try.prog 20 #[.pointer (some ⟨p, 0, none⟩)] W fun e w' => e = .returned (.int .i64 l.length) ∧ W = w') := Lib.hid fun W hW => lenAny (H.out.fresh hW).at_.1
  have HML := Lib.hid (show (l.map It.v).length = l.length by simp)
  have HLv : Hid (∀ k, (lvlOf l k).length ≤ 1000) := Lib.hid fun k => Nat.le_trans lvl_le HN.out
  generalize l.length = n at *
  go_enter Try.func27, Try.ntmps27
  go_wp2
  go_loopw [5] (fun i wr => ∃ k : Nat, k ≤ 11 ∧ i = .int .i64 ((k : Int) - 1) ∧ Below w.heap.size w wr) (fun i _ => 11 - (intOf i + 1).toNat)
  case atStart => exact ⟨0, by omega, rfl, Below.refl _ _⟩
  case round =>
    obtain ⟨k, hk, rfl, hb⟩ := hrel
    have HB := Lib.hid hb
    clear hb
    by_cases hlt : (k : Int) - 1 ≤ 9
    · have C := HCs.out wr HB.out ((k : Int) - 1)
      have HC2 : Hid (∀ W, Below w.heap.size w W → _) := Lib.hid fun W hW => HCr.out W hW ((k : Int) - 1)
      have hx := HLv.out ((k : Int) - 1)
      generalize lvlOf l ((k : Int) - 1) = xs at *
      go_wp2_with fail
      refine C.mono ?_
      clear C
      rintro e w2 ⟨a2, c2, rfl, rx2, _, _, bl2⟩
      have HB2 := Lib.hid (HB.out.trans (bl2.mono HB.out.size))
      have HX2 := Lib.hid rx2
      have C := HC2.out w2 HB2.out
      clear rx2 bl2 HB HC2
      go_wp2_with fail
      refine C.mono ?_
      clear C
      rintro e w3 ⟨a3, c3, rfl, rx3, _, _, bl3⟩
      have HB3 := Lib.hid (HB2.out.trans (bl3.mono HB2.out.size))
      have C := sameEq w3 a2 a3 xs.length c2 c3 xs (HX2.out.keep bl3) rx3 hx
      clear rx3 bl3 HB2 HX2
      generalize xs.length = nx at *
      go_wp2_with fail
      refine C.mono ?_
      clear C
      rintro e w4 ⟨rfl, bl4⟩
      have HB4 := Lib.hid (HB3.out.trans (bl4.mono HB3.out.size))
      clear bl4 HB3
      go_wp2
      go_roundw
      case rel => exact ⟨k + 1, by omega, by go_num, HB4.out⟩
      case measure => simp [intOf]; omega
    · have C := HCl.out wr HB.out
      generalize l.map It.v = xs at *
      go_wp2_with fail
      refine C.mono ?_
      clear C
      rintro e w' ⟨rfl, rfl⟩
      have C := HCi.out wr HB.out
      go_wp2_with fail
      refine C.mono ?_
      clear C
      rintro e w2 ⟨a2, c2, rfl, rx2, _, _, bl2⟩
      have HB2 := Lib.hid (HB.out.trans (bl2.mono HB.out.size))
      have HX2 := Lib.hid rx2
      have C := HCv.out w2 HB2.out
      clear rx2 bl2 HB
      go_wp2_with fail
      refine C.mono ?_
      clear C
      rintro e w3 ⟨a3, c3, rfl, rx3, _, _, bl3⟩
      have HB3 := Lib.hid (HB2.out.trans (bl3.mono HB2.out.size))
      have C := sameEq w3 a2 a3 xs.length c2 c3 xs (HX2.out.keep bl3) rx3 (by rw [HML.out]; exact hl)
      clear rx3 bl3 HB2 HX2
      go_wp2_with fail
      refine C.mono ?_
      clear C
      rintro e w4 ⟨rfl, bl4⟩
      have HB4 := Lib.hid (HB3.out.trans (bl4.mono HB3.out.size))
      clear bl4 HB3
      go_wp2
      go_ret
      exact ⟨rfl, HB4.out⟩

end Go.Proofs.Ytjcdbdhdmalfaaa
