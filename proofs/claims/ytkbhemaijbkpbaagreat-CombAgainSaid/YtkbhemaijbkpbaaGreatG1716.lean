/-
  What values and heights of package sorted tell: values of places, heights of a coin one behind the other. Conditions: places below the operations' number; a coin as Coin says; at most a thousand. What do of package sorted does: one operation at a list, or none, with a coin. Conditions: a list as SkO says, a coin as Coin says, beside one another. An object in memory: what holds its items, its coin, its own block; what a call leaves of it. Conditions: none; no Go function is walked here. New of package object: an empty one of a stack, a deque, a heap; none of any other. Conditions: none. slices.swapRangeCmpFunc exchanges two ranges of a row of ints. Conditions: a row of one's own.
-/
import Derived.Test.YtkbhemaijbkpbaaGreatG1616
import Derived.Test.YtkbhemaijbkpbaaGreatG1516
import Derived.Test.YtkbhemaijbkpbaaGreatG0116
namespace Go.Proofs.YtkbhemaijbkpbaaGreat
open Go.RowKit

/-- The first k are told. -/
def rowK (xs : List Int) (n k : Nat) : List Int := xs.take k ++ List.replicate (n - k) 0
theorem rowK_none (xs : List Int) (n : Nat) : rowK xs n 0 = List.replicate n 0 := by simp [rowK]
theorem rowK_all {xs : List Int} {n : Nat} (h : xs.length = n) : rowK xs n n = xs := by unfold rowK; rw [List.take_of_length_le (by omega)]; simp
theorem rowK_length {xs : List Int} {n k : Nat} (h : xs.length = n) (hk : k ≤ n) : (rowK xs n k).length = n := by unfold rowK; simp; omega
theorem rowK_put {xs : List Int} {n k : Nat} (h : xs.length = n) (hk : k < n) : (rowK xs n k).set k (xs.getD k 0) = rowK xs n (k + 1) := by
  unfold rowK
  have hl : (xs.take k).length = k := by simp; omega
  rw [List.set_append_right _ _ (by omega), hl, Nat.sub_self, show n - k = (n - (k + 1)) + 1 by omega, List.replicate_succ, List.set_cons_zero, List.take_succ_eq_append_getElem (show k < xs.length by omega), List.append_assoc]
  have e : xs.getD k 0 = xs[k] := by simp [List.getD, show k < xs.length by omega]
  rw [e]
  rfl

theorem infoI : (Tryz.prog.info? 3).map (fun i => (i.zero, i.size, i.bytes)) = some (some (.int .i64 0), 1, 8) := infoInt

/-- Values in new memory. -/
def ValsPost (w : World) (zs : List Int) (n : Nat) (e : Ending) (w' : World) : Prop :=
  e = .returned (.slice (some ⟨w.heap.size, 0, none⟩) n n) ∧ Rw w' w.heap.size .i32 21 zs ∧ Below w.heap.size w w'

set_option maxRecDepth 100000 in
set_option maxHeartbeats 4000000 in
theorem valuesAny (w : World) (ao al : Option Addr) (n cap k cl : Nat) (os : List (Int × Int)) (A : List Int) (ho : OpsAt w ao n os) (hA : Reads .i64 w al k A) (hin : ∀ x ∈ A, 0 ≤ x ∧ x < (n : Int)) (hn : n ≤ 1000) (hk : k ≤ 1000) :
    Calls Tryz.prog 217 #[.slice ao n cap, .slice al k cl] w (ValsPost w (A.map (keyOf os)) k) := by
  obtain ⟨i0, hi, hz0, hz1, hz2⟩ := info_parts infoI32
  have HO := Lib.hid ho
  have HA := Lib.hid hA
  have HI := Lib.hid hin
  have HL := Lib.hid (show (A.map (keyOf os)).length = k by rw [List.length_map]; exact hA.1)
  clear ho hA hin
  go_enter Tryz.func217, Tryz.ntmps217
  go_upto_region 2 with (at_make; refine wpList_make_full _ rfl _ _ 59 rfl w.heap.size 21 i0 _ 1 Tryz.underlying59 hi hz0 hz1 .i64 .i64 _ _ k rfl rfl rfl rfl (by rw [hz2]; omega) (by simp only [maxLen]; omega) (Nat.le_refl _) ?_; intro w1 hown1 hgrow1; have HM := Lib.hid (madeRow hown1 hgrow1); clear hown1 hgrow1)
  generalize hb : w.heap.size = b at *
  have HB := Lib.hid hb
  have HS := Lib.hid (show Rw w1 b .i32 21 (rowK (A.map (keyOf os)) k 0) ∧ Below w.heap.size w w1 from ⟨by rw [rowK_none]; exact HM.out.1, by rw [hb]; exact HM.out.2⟩)
  clear HM hb
  go_wp2_with fail
  go_loopw [13] (fun i wr => ∃ q : Nat, q ≤ k ∧ i = .int .i64 q ∧ Rw wr b .i32 21 (rowK (A.map (keyOf os)) k q) ∧ Below w.heap.size w wr) (fun i _ => k - (intOf i).toNat)
  case atStart => exact ⟨0, Nat.zero_le _, rfl, HS.out⟩
  case round =>
    obtain ⟨q, hq, rfl, hr, hbe⟩ := hrel
    clear HS
    by_cases hlt : q < k
    · obtain ⟨lb, lo, rfl, ll, lc⟩ := HA.out.2 (by omega)
      have cz := (hbe.cell (p := ⟨lb, lo + q, none⟩) ll).trans (lc q hlt)
      obtain ⟨z, hz⟩ : ∃ z, A.getD q 0 = z := ⟨_, rfl⟩
      have hzb := HI.out _ (getD_mem (l := A) (k := q) (by rw [HA.out.1]; exact hlt) 0)
      rw [hz] at cz hzb
      obtain ⟨p, rfl⟩ : ∃ p : Nat, z = p := ⟨z.toNat, by omega⟩
      have hpn : p < n := by omega
      obtain ⟨bo, off, rfl, bol, hc⟩ := HO.out.2 (by omega)
      have y1 := (hbe.cell (p := ⟨bo, off + p * 2 + 1, none⟩) bol).trans (hc p hpn).2
      have ev : (A.map (keyOf os)).getD q 0 = (os.getD p (0, 0)).2 := by
        have : (A.map (keyOf os)).getD q 0 = keyOf os (A.getD q 0) := by simp [List.getD, show q < A.length by rw [HA.out.1]; exact hlt]
        rw [this, hz]
        simp [keyOf]
      have hput := hr.set q ((A.map (keyOf os)).getD q 0)
      rw [rowK_put HL.out hlt, ev] at hput
      generalize (os.getD p (0, 0)).2 = kv at *
      have c0 := hr.cell (i := q) (by rw [rowK_length HL.out (by omega)]; exact hlt)
      have fz := hr.free
      have HQ := Lib.hid (show Rw (wr.setCell ⟨b, q, none⟩ (.int .i32 kv)) b .i32 21 (rowK (A.map (keyOf os)) k (q + 1)) ∧ Below w.heap.size w (wr.setCell ⟨b, q, none⟩ (.int .i32 kv)) from ⟨hput, hbe.setCell (p := ⟨b, q, none⟩) (by have := HB.out; show w.heap.size ≤ b; omega) _⟩)
      have i1 : (q : Int) < k := by omega
      have p1 : (p : Int) < n := by omega
      clear lc hz hzb hc ev hput hr hbe
      go_wp2
      go_roundw
      case rel => exact ⟨q + 1, by omega, by go_num, HQ.out⟩
      case measure => simp [intOf]; omega
    · obtain rfl : q = k := by omega
      have HF := Lib.hid (show ValsPost w (A.map (keyOf os)) q (.returned (.slice (some ⟨b, 0, none⟩) q q)) wr from by
        rw [rowK_all HL.out] at hr
        exact ⟨by rw [HB.out], by rw [HB.out]; exact hr, hbe⟩)
      clear hr hbe hlt
      go_wp2
      go_ret
      exact HF.out

/-- What heights leaves. -/
def HgtPost (w : World) (G : Nat → Prop) (q : Nat) (bs : List Bool) (r : Nat) (e : Ending) (w' : World) : Prop :=
  ∃ G', e = .returned (.slice (some ⟨w.heap.size, 0, none⟩) r r) ∧ Rw w' w.heap.size .i64 3 (hgts bs r) ∧ Coin w' G' q (lefts bs r) ∧ ¬ G' w.heap.size ∧ Wrote G w w' ∧ Later G G' w
/-- In the midst of it. -/
def HgtAt (w : World) (G : Nat → Prop) (q : Nat) (bs : List Bool) (b r k : Nat) (wr : World) : Prop :=
  ∃ G', Rw wr b .i64 3 (rowK (hgts bs r) r k) ∧ Coin wr G' q (lefts bs k) ∧ ¬ G' b ∧ Wrote G w wr ∧ Later G G' w

theorem HgtAt.next {w wr w2 : World} {G : Nat → Prop} {q b r k : Nat} {bs : List Bool} (hb : w.heap.size = b) (hk : k < r) {G' : Nat → Prop} (hr : Rw wr b .i64 3 (rowK (hgts bs r) r k)) (hG : ¬ G' b) (hw : Wrote G w wr) (hl : Later G G' w) (d : DidC G' q (lefts bs (k + 1)) wr w2) :
    w2.cell? ⟨b, k, none⟩ = some (.int .i64 ((rowK (hgts bs r) r k).getD k 0)) ∧ (∀ j, w2.frozen? ⟨b, j, none⟩ = false) ∧ HgtAt w G q bs b r (k + 1) (w2.setCell ⟨b, k, none⟩ (.int .i64 ((up (lefts bs k) : Int) + 1))) := by
  obtain ⟨G2, c2, w2', l2⟩ := d
  have hr2 := hr.keep (w' := w2) (w2'.block b hr.lt hG)
  have hl1 : (rowK (hgts bs r) r k).length = r := rowK_length (hgts_length bs r) (by omega)
  have hput := hr2.set k ((up (lefts bs k) : Int) + 1)
  rw [show ((up (lefts bs k) : Int) + 1) = (hgts bs r).getD k 0 from (hgts_at bs hk 0).symm, rowK_put (hgts_length bs r) hk] at hput
  rw [hgts_at bs hk 0] at hput
  have hG2 : ¬ G2 b := Later.not l2 hG hr.lt
  refine ⟨hr2.cell (by omega), hr2.free, G2, hput, c2.apart (wrote1 w2 b k _) (fun g h1 h2 => hG2 (h2 ▸ h1)), hG2, ((hw.step hl w2').setCell (q := ⟨b, k, none⟩) (.inl (by simp; omega)) _), fun g hg => ?_⟩
  rcases l2 g hg with h | h
  · exact hl g h
  · exact .inr (Nat.le_trans hw.size h)

set_option maxRecDepth 100000 in
set_option maxHeartbeats 4000000 in
theorem heightsAny {w : World} {G : Nat → Prop} {q : Nat} {bs : List Bool} (h : Coin w G q bs) (r : Nat) (hr : r ≤ 1000) :
    Calls Tryz.prog 218 #[.pointer (some ⟨q, 0, none⟩), .int .i64 r] w (HgtPost w G q bs r) := by
  obtain ⟨i0, hi, hz0, hz1, hz2⟩ := info_parts infoInt
  have HC := Lib.hid h
  clear h
  have r0 : (0 : Int) ≤ r := by omega
  go_enter Tryz.func218, Tryz.ntmps218
  go_upto_region 2 with (at_make; refine wpList_make_full _ rfl _ _ 33 rfl w.heap.size 3 i0 _ 1 Tryz.underlying33 hi hz0 hz1 .i64 .i64 _ _ r rfl rfl rfl rfl (by rw [hz2]; omega) (by simp only [maxLen]; omega) (Nat.le_refl _) ?_; intro w1 hown1 hgrow1; have HM := Lib.hid (madeRow hown1 hgrow1); clear hown1 hgrow1)
  generalize hb : w.heap.size = b at *
  have HB := Lib.hid hb
  have HS := Lib.hid (show HgtAt w G q bs b r 0 w1 from ⟨G, by rw [rowK_none]; exact HM.out.1, HC.out.fresh (by rw [hb]; exact HM.out.2), (fun e => by have := HC.out.foot _ e; omega), Wrote.of (by rw [hb]; exact HM.out.2) G, Later.refl _ _⟩)
  clear HM hb HC
  go_wp2_with fail
  go_loopw [11] (fun i wr => ∃ k : Nat, k ≤ r ∧ i = .int .i64 k ∧ HgtAt w G q bs b r k wr) (fun i _ => r - (intOf i).toNat)
  case atStart => exact ⟨0, Nat.zero_le _, rfl, HS.out⟩
  case round =>
    obtain ⟨k, hk, rfl, G', hr1, hc, hG, hw, hl⟩ := hrel
    clear HS
    by_cases hlt : k < r
    · have i1 : (k : Int) < r := by omega
      have C := Lib.hid (heightAny hc)
      have HN := Lib.hid (fun (w2 : World) (d : DidC G' q (lefts bs (k + 1)) wr w2) => HgtAt.next HB.out hlt hr1 hG hw hl d)
      clear hr1 hc hG hw hl
      go_wp2_with fail
      refine C.out.mono ?_
      rintro e w2 ⟨rfl, d⟩
      obtain ⟨c0, fz, hn⟩ := HN.out w2 d
      have HN2 := Lib.hid hn
      clear hn d C HN
      go_wp2
      go_roundw
      case rel => exact ⟨k + 1, by omega, by go_num, HN2.out⟩
      case measure => simp [intOf]; omega
    · obtain rfl : k = r := by omega
      have HF := Lib.hid (show HgtPost w G q bs k (.returned (.slice (some ⟨b, 0, none⟩) k k)) wr from by
        rw [rowK_all (hgts_length bs k)] at hr1
        exact ⟨G', by rw [HB.out], by rw [HB.out]; exact hr1, hc, by rw [HB.out]; exact hG, hw, hl⟩)
      clear hr1 hc hG hw hl hlt
      go_wp2
      go_ret
      exact HF.out

end Go.Proofs.YtkbhemaijbkpbaaGreat
namespace Go.Proofs.YtkbhemaijbkpbaaGreat
open Go.RowKit

/-- What a call on a list, or none, and a coin leaves. -/
def DidP (F G : Nat → Prop) (sp : Option Nat) (q : Nat) (m : Int) (s : List It × List Bool) (w w' : World) : Prop :=
  ∃ F' G', SkO w' F' sp m s.1 ∧ Coin w' G' q s.2 ∧ Apart F' G' ∧ Wrote (fun g => F g ∨ G g) w w' ∧ Later F F' w ∧ Later G G' w

section
variable {w w1 w2 w' : World} {F G F' G' : Nat → Prop} {sp : Option Nat} {p q : Nat} {m : Int} {l l' : List It} {bs bs' : List Bool} {s : List It × List Bool}
theorem Wrote.into (h : Wrote F w w') (hs : ∀ g, F g → G g) : Wrote G w w' := ⟨h.os, h.tape, h.output, h.size, fun k hk hn => h.block k hk (fun e => hn (hs k e))⟩
theorem DidP.still (h : SkO w F sp m s.1) (c : Coin w G q s.2) (ap : Apart F G) (hb : Below w.heap.size w w') : DidP F G sp q m s w w' :=
  ⟨F, G, h.fresh hb, c.fresh hb, ap, Wrote.of hb _, Later.refl _ _, Later.refl _ _⟩
theorem DidP.left (c : Coin w G q bs) (ap : Apart F G) (d : DidSO F sp m l w w') : DidP F G sp q m (l, bs) w w' := by
  obtain ⟨F', h1, h2, h3⟩ := d
  exact ⟨F', G, h1, c.apart h2 ap.symm, h3.apart ap c.foot, h2.into (fun _ h => .inl h), h3, Later.refl _ _⟩
theorem DidP.right (h : SkO w F sp m l) (ap : Apart F G) (d : DidC G q bs w w') : DidP F G sp q m (l, bs) w w' := by
  obtain ⟨G', h1, h2, h3⟩ := d
  exact ⟨F, G', h.apart h2 ap, h1, (h3.apart ap.symm h.1).symm, h2.into (fun _ h => .inr h), Later.refl _ _, h3⟩
theorem DidP.trans (hw : Wrote (fun g => F g ∨ G g) w w1) (hF : Later F F' w) (hG : Later G G' w) (d : DidP F' G' sp q m s w1 w2) : DidP F G sp q m s w w2 := by
  obtain ⟨F2, G2, h1, h2, h3, h4, h5, h6⟩ := d
  refine ⟨F2, G2, h1, h2, h3, hw.step (F' := fun g => F' g ∨ G' g) (fun g hg => ?_) h4, hF.trans h5 hw.size, hG.trans h6 hw.size⟩
  rcases hg with hg | hg
  · exact (hF g hg).imp .inl id
  · exact (hG g hg).imp .inr id
theorem DidP.less (hb : Below w.heap.size w w1) (d : DidP F G sp q m s w1 w2) : DidP F G sp q m s w w2 := DidP.trans (Wrote.of hb _) (Later.refl _ _) (Later.refl _ _) d
theorem DidP.more (d : DidP F G sp q m s w w1) (hb : Below w1.heap.size w1 w2) : DidP F G sp q m s w w2 := by
  obtain ⟨F2, G2, h1, h2, h3, h4, h5, h6⟩ := d
  exact ⟨F2, G2, h1.fresh hb, h2.fresh hb, h3, h4.trans (Wrote.of hb _), h5, h6⟩
/-- A box of one's own is written to. -/
theorem DidP.box {W : World} (d : DidP F G sp q m s W w1) (hb : Below w.heap.size w W) {g : Nat} (hg : w.heap.size ≤ g) (hg2 : g < W.heap.size) (hF : ∀ k, F k → k < w.heap.size) (hG : ∀ k, G k → k < w.heap.size) (u v : Value) : DidP F G sp q m s w ((w1.setCell ⟨g, 0, none⟩ u).setCell ⟨g, 1, none⟩ v) := by
  obtain ⟨F2, G2, h1, h2, h3, h4, h5, h6⟩ := d
  have k1 : ¬ F2 g := fun e => by
    rcases h5 g e with h | h
    · have := hF g h; omega
    · omega
  have k2 : ¬ G2 g := fun e => by
    rcases h6 g e with h | h
    · have := hG g h; omega
    · omega
  exact ⟨F2, G2, h1.set2 k1 u v, h2.apart (wrote2 w1 g 0 1 u v) (fun k a b => k2 (b ▸ a)), h3, (((Wrote.of hb _).trans h4).setCell (q := ⟨g, 0, none⟩) (.inl hg) u).setCell (q := ⟨g, 1, none⟩) (.inl hg) v, fun k hk => (h5 k hk).imp id (fun h => Nat.le_trans hb.size h), fun k hk => (h6 k hk).imp id (fun h => Nat.le_trans hb.size h)⟩

theorem RBox.drew {W : World} {g : Nat} {c x : Int} (h : RBox W g c x) : RBox W.drew g c x := h
theorem OBox.drew {W : World} {g : Nat} {c x : Int} (h : OBox W g c x) : OBox W.drew g c x := h
theorem OBox.off {a b : World} {g : Nat} {c x : Int} (h : OBox a g c x) (hn : ¬ F g) (hw : Wrote F a b) : OBox b g c x := (hw.block g h.lt hn).trans h

set_option maxRecDepth 100000 in
set_option maxHeartbeats 3200000 in
theorem doOther (h : SkO w F sp m l) (c : Coin w G q bs) (ap : Apart F G) (kd kv : Int) (hk : ¬ kd = 1) :
    Calls Tryz.prog 223 #[.pointer (ptrS sp), .pointer (some ⟨q, 0, none⟩), .agg #[.int .u8 kd, .int .i32 kv]] w fun e w' => e = .returned (.agg #[.int .u8 (hpC m (vals l) kd), .int .i32 (hpV (vals l) kd)]) ∧ DidP F G sp q m ((if kd = 2 then l.tail else l), bs) w w' := by
  have HH := Lib.hid h
  have HC := Lib.hid c
  have HA := Lib.hid ap
  have HK := Lib.hid hk
  have d2 : (kd != 1) = true := by simpa using hk
  clear h c ap hk
  obtain ⟨rc, hrc⟩ : ∃ x, hpC m (vals l) kd = x := ⟨_, rfl⟩
  obtain ⟨rv, hrv⟩ : ∃ x, hpV (vals l) kd = x := ⟨_, rfl⟩
  obtain ⟨l2, hl2⟩ : ∃ x, (if kd = 2 then l.tail else l) = x := ⟨_, rfl⟩
  have HE := Lib.hid (And.intro hrc (And.intro hrv hl2))
  rw [hrc, hrv, hl2]
  clear hrc hrv hl2
  go_enter Tryz.func223, Tryz.ntmps223
  go_upto_region 1 with (fail)
  generalize hW : (w.alloc (.cells #[.int .u8 kd, .int .i32 kv] 38)).alloc (.cells #[.int .u8 0, .int .i32 0] 74) = W
  obtain ⟨o0, b0, hb, hs⟩ := begunS w _ _ W hW
  have c0 := o0.c0
  have c1 := o0.c1
  have HB := Lib.hid hb
  have HZ := Lib.hid b0
  clear hW hb o0 b0
  have C := takenAny (HH.out.fresh HB.out) kd kv HK.out
  rw [HE.out.1, HE.out.2.1, HE.out.2.2] at C
  have CC := Lib.hid C
  clear C
  go_wp2_with fail
  refine CC.out.mono ?_
  rintro e w1 ⟨rfl, d⟩
  have hF0 : ∀ g, F g → g < w.heap.size := HH.out.1
  have hG0 : ∀ g, G g → g < w.heap.size := HC.out.foot
  have dw := d
  obtain ⟨_, _, wr, _⟩ := dw
  have b1 := HZ.out.off (F := F) (fun e => by have := hF0 _ e; omega) wr
  have hs1 := wr.size
  have HD := Lib.hid (DidP.box (DidP.left (HC.out.fresh HB.out) HA.out d) HB.out (g := w.heap.size + 1) (by omega) (by omega) hF0 hG0 (.int .u8 rc) (.int .i32 rv))
  have c0 := b1.c0
  have c1 := b1.c1
  have f := b1.f
  have r := b1.set2 rc rv
  have r0 := r.c0
  have r1 := r.c1
  clear b1 r d wr hF0 hG0 hs1
  go_wp2
  exact bodyPost_ret (v := .agg #[.int .u8 rc, .int .i32 rv]) (by simp [results, Tryz.results223, go_sem, r0, r1]) rfl ⟨rfl, HD.out⟩
set_option maxRecDepth 100000 in
set_option maxHeartbeats 6400000 in
theorem doFull (h : SkO w F sp m l) (c : Coin w G q bs) (ap : Apart F G) (kv : Int) (hf : ¬ (l.length : Int) < m) :
    Calls Tryz.prog 223 #[.pointer (ptrS sp), .pointer (some ⟨q, 0, none⟩), .agg #[.int .u8 1, .int .i32 kv]] w fun e w' => e = .returned (.agg #[.int .u8 3, .int .i32 0]) ∧ DidP F G sp q m (l, bs) w w' := by
  have HH := Lib.hid h
  have HC := Lib.hid c
  have HA := Lib.hid ap
  have d0 : decide ((l.length : Int) < m) = false := by simpa using hf
  clear h c ap hf
  go_enter Tryz.func223, Tryz.ntmps223
  go_upto_region 1 with (fail)
  generalize hW : (w.alloc (.cells #[.int .u8 1, .int .i32 kv] 38)).alloc (.cells #[.int .u8 0, .int .i32 0] 74) = W
  obtain ⟨o0, b0, hb, hs⟩ := begunS w _ _ W hW
  have c0 := o0.c0
  have HB := Lib.hid hb
  have HZ := Lib.hid b0
  have HS := Lib.hid hs
  clear hW hb o0 b0 hs
  have R := (roomSO ((HH.out.fresh HB.out).fresh (Below.refl _ W).drew)).mono (fun e w' h => (⟨h.1, h.2.symm⟩ : e = .returned (.int .i64 (m - (l.length : Int))) ∧ w' = W.drew))
  have AD := Lib.hid (addedAny W.drew false)
  go_wp2_with fail
  refine wp_region_still_tail 11 (by kernel_rfl) (by kernel_rfl) ?_
  simp only [List.take_succ_cons, List.take_zero, List.drop_succ_cons, List.drop_zero]
  still_step
  still_call R
  repeat still_step
  refine wpStill_nil ?_
  clear R d0
  change wpList _ _ _ _ _ W.drew
  go_wp2_with fail
  refine AD.out.mono ?_
  rintro e w2 ⟨rfl, b2⟩
  have b1 := HZ.out.drew.keep b2
  have c0 := b1.c0
  have c1 := b1.c1
  have f := b1.f
  have r := b1.set2 3 0
  have r0 := r.c0
  have r1 := r.c1
  have HD := Lib.hid (DidP.box (DidP.still (s := (l, bs)) (HH.out.fresh HB.out) (HC.out.fresh HB.out) HA.out ((Below.refl _ W).drew.trans b2)) HB.out (g := w.heap.size + 1) (by omega) (by have := HS.out; omega) HH.out.1 HC.out.foot (.int .u8 3) (.int .i32 0))
  clear b1 r b2
  go_wp2
  exact bodyPost_ret (v := .agg #[.int .u8 3, .int .i32 0]) (by simp [results, Tryz.results223, go_sem, r0, r1]) rfl ⟨rfl, HD.out⟩

set_option maxRecDepth 100000 in
set_option maxHeartbeats 6400000 in
theorem doPut (h : Skip w F p m l) (c : Coin w G q bs) (ap : Apart F G) (kv : Int) (hf : (l.length : Int) < m) :
    Calls Tryz.prog 223 #[.pointer (some ⟨p, 0, none⟩), .pointer (some ⟨q, 0, none⟩), .agg #[.int .u8 1, .int .i32 kv]] w fun e w' => e = .returned (.agg #[.int .u8 1, .int .i32 0]) ∧ DidP F G (some p) q m (insIt ⟨kv, up bs + 1⟩ l, left bs) w w' := by
  have HH := Lib.hid h
  have HC := Lib.hid c
  have HA := Lib.hid ap
  have d0 : decide ((l.length : Int) < m) = true := by simpa using hf
  have HF := Lib.hid hf
  have HU := Lib.hid (show hOf ((up bs : Int) + 1) = up bs + 1 by have hu := up_le bs; unfold hOf; split <;> (try split) <;> omega)
  clear h c ap hf
  go_enter Tryz.func223, Tryz.ntmps223
  go_upto_region 1 with (fail)
  generalize hW : (w.alloc (.cells #[.int .u8 1, .int .i32 kv] 38)).alloc (.cells #[.int .u8 0, .int .i32 0] 74) = W
  obtain ⟨o0, b0, hb, hs⟩ := begunS w _ _ W hW
  have c0 := o0.c0
  have HO := Lib.hid o0
  have HB := Lib.hid hb
  have HZ := Lib.hid b0
  have HS := Lib.hid hs
  clear hW hb o0 b0 hs
  have HHd := Lib.hid ((HH.out.fresh HB.out).drew)
  have HCd := Lib.hid ((HC.out.fresh HB.out).drew)
  have R := Lib.hid (roomSO (SkO.of HHd.out))
  have HT := Lib.hid (heightAny HCd.out)
  have hF0 : ∀ g, F g → g < w.heap.size := HH.out.foot
  have hG0 : ∀ g, G g → g < w.heap.size := HC.out.foot
  go_wp2_with fail
  have z1 := HO.out.drew.c1
  go_region_held3 (fun w' => w'.cell? ⟨w.heap.size, 1, none⟩ = some (.int .i32 kv)) (first | exact z1 | exact z2 | exact z3 | exact z4 | exact cellOther _ (by simp) (cellOther _ (by simp) z4) | exact cellOther _ (by simp) z4) (first
    | (go_at_call 219; refine R.out.mono ?_; rintro e w1 ⟨rfl, rfl⟩)
    | (go_at_call 152; refine HT.out.mono ?_; rintro e w2 ⟨rfl, d⟩; have dw := d; obtain ⟨G2, k2, wr2, l2⟩ := dw; have o2 := HO.out.drew.off (F := G) (fun e => by have := hG0 _ e; omega) wr2; have x2 := HZ.out.drew.off (F := G) (fun e => by have := hG0 _ e; omega) wr2; have z2 := o2.c1; have HQ := Lib.hid (And.intro (DidP.right (SkO.of HHd.out) HA.out d) (And.intro o2 x2)); have IN := Lib.hid (insertOk (HHd.out.apart wr2 HA.out) HF.out kv ((up bs : Int) + 1)); rw [HU.out] at IN; have HG2 := Lib.hid (And.intro k2 (And.intro wr2 (And.intro l2 (l2.apart HA.out.symm HHd.out.foot)))); clear d k2 wr2 l2 o2 x2)
    | (go_at_call 233; refine IN.out.mono ?_; rintro e w3 ⟨rfl, d⟩; have dw := d; obtain ⟨F3, k3, wr3, l3⟩ := dw; have o3 := HQ.out.2.1.off (F := F) (fun e => by have := hF0 _ e; omega) wr3; have x3 := HQ.out.2.2.off (F := F) (fun e => by have := hF0 _ e; omega) wr3; have z3 := o3.c1; have HQ3 := Lib.hid (And.intro (DidP.trans (HG2.out.2.1.into (fun _ h => Or.inr h)) (Later.refl _ _) HG2.out.2.2.1 (DidP.left HG2.out.1 HG2.out.2.2.2.symm (DidSO.of d))) (And.intro o3 x3)); have AD := Lib.hid (addedAny w3 true); clear d k3 wr3 l3 o3 x3)
    | (go_at_call 220; refine AD.out.mono ?_; rintro e w4 ⟨rfl, b4⟩; have o4 := HQ3.out.2.1.keep b4; have z4 := o4.c1; have b1 := HQ3.out.2.2.keep b4; have c0 := b1.c0; have c1 := b1.c1; have f := b1.f; have HB4 := Lib.hid b4; have HB1 := Lib.hid b1; clear b1 b4 o4))
  all_goals
    have r := HB1.out.set2 1 0
    have r0 := r.c0
    have r1 := r.c1
    have HD := Lib.hid (DidP.box (DidP.less (Below.refl _ W).drew (HQ3.out.1.more HB4.out)) HB.out (g := w.heap.size + 1) (by omega) (by have := HS.out; omega) hF0 hG0 (.int .u8 1) (.int .i32 0))
    go_wp2
    exact bodyPost_ret (v := .agg #[.int .u8 1, .int .i32 0]) (by simp [results, Tryz.results223, go_sem, r0, r1]) rfl ⟨rfl, HD.out⟩

/-- One operation, whichever. -/
theorem doAny (h : SkO w F sp m l) (c : Coin w G q bs) (ap : Apart F G) (kd kv : Int) :
    Calls Tryz.prog 223 #[.pointer (ptrS sp), .pointer (some ⟨q, 0, none⟩), .agg #[.int .u8 kd, .int .i32 kv]] w fun e w' => e = .returned (.agg #[.int .u8 (hpC m (vals l) kd), .int .i32 (hpV (vals l) kd)]) ∧ DidP F G sp q m (stS m (l, bs) (kd, kv)) w w' := by
  by_cases hk : kd = 1
  · subst hk
    by_cases hf : (l.length : Int) < m
    · cases sp with
      | none => obtain ⟨_, rfl, rfl⟩ := h; simp at hf
      | some p =>
        have := doPut h.2 c ap kv hf
        simpa [ptrS, hpC, hpV, stS, vals_length, hf] using this
    · have := doFull h c ap kv hf
      simpa [hpC, hpV, stS, vals_length, hf] using this
  · have := doOther h c ap kd kv hk
    have e : stS m (l, bs) (kd, kv) = ((if kd = 2 then l.tail else l), bs) := by
      unfold stS
      rw [if_neg hk]
      split <;> rfl
    rw [e]
    exact this
end

end Go.Proofs.YtkbhemaijbkpbaaGreat
namespace Go.Proofs.YtkbhemaijbkpbaaGreat
open Go.RowKit Go.Lib

/-- An object's own block. -/
def OBlk (w : World) (o : Nat) (h : Value) (q : Nat) (pl : Bool) : Prop := w.heap[o]? = some (.cells #[h, .pointer (some ⟨q, 0, none⟩), .bool pl] 107 (0, 0))
section
variable {w w' : World} {o q : Nat} {h : Value} {pl : Bool}
theorem OBlk.lt (x : OBlk w o h q pl) : o < w.heap.size := lt_of_block x
theorem OBlk.c0 (x : OBlk w o h q pl) : w.cell? ⟨o, 0, none⟩ = some h := by unfold OBlk at x; simp [World.cell?, x]
theorem OBlk.c1 (x : OBlk w o h q pl) : w.cell? ⟨o, 1, none⟩ = some (.pointer (some ⟨q, 0, none⟩)) := by unfold OBlk at x; simp [World.cell?, x]
theorem OBlk.c2 (x : OBlk w o h q pl) : w.cell? ⟨o, 2, none⟩ = some (.bool pl) := by unfold OBlk at x; simp [World.cell?, x]
theorem OBlk.keep (x : OBlk w o h q pl) (e : w'.heap[o]? = w.heap[o]?) : OBlk w' o h q pl := e.trans x
theorem OBlk.new (w : World) (h : Value) (q : Nat) (pl : Bool) : OBlk (w.alloc (.cells #[h, .pointer (some ⟨q, 0, none⟩), .bool pl] 107)) w.heap.size h q pl := heap_alloc_new w _
end

/-- What holds the items: a stack, a deque, a list. -/
def Held (k : Int) (w : World) (H : Nat → Prop) (p : Nat) (m : Int) (l : List It) : Prop :=
  (k = 1 ∧ K9.Stk w H p m (vals l)) ∨ (k = 2 ∧ D10.Rng w H p m (vals l)) ∨ (k = 3 ∧ SkO w H (some p) m l)
/-- The holder's type. -/
def tyOf (k : Int) : TypeId := if k = 1 then 135 else if k = 2 then 139 else 143

section
variable {w w' : World} {F F' G H : Nat → Prop} {k m : Int} {p q o : Nat} {l l' : List It} {pl : Bool} {s s' : List It × List Bool}
theorem Held.kind (h : Held k w H p m l) : k = 1 ∨ k = 2 ∨ k = 3 := by rcases h with h | h | h <;> simp [h.1]
theorem Held.foot (h : Held k w H p m l) : ∀ g, H g → g < w.heap.size := by
  rcases h with h | h | h
  · exact h.2.foot
  · exact h.2.foot
  · exact h.2.1
theorem Held.apart (h : Held k w H p m l) (hw : Wrote G w w') (ha : Apart H G) : Held k w' H p m l := by
  rcases h with h | h | h
  · exact .inl ⟨h.1, h.2.apart hw ha⟩
  · exact .inr (.inl ⟨h.1, h.2.apart hw ha⟩)
  · exact .inr (.inr ⟨h.1, h.2.apart hw ha⟩)
theorem Held.room (h : Held k w H p m l) : (l.length : Int) ≤ m ∧ 0 ≤ m ∧ m ≤ 1000 := by
  rcases h with h | h | h
  · have := h.2.room; rw [vals_length] at this; exact ⟨this, h.2.s0, h.2.s1⟩
  · have := h.2.room; rw [vals_length] at this; exact ⟨this, h.2.s0, h.2.s1⟩
  · exact h.2.room

/-- An object, all of whose blocks are of F. -/
def Ob (w : World) (F : Nat → Prop) (o : Nat) (k m : Int) (pl : Bool) (s : List It × List Bool) : Prop :=
  ∃ H G p q, OBlk w o (holdV (tyOf k) p) q pl ∧ Held k w H p m s.1 ∧ Coin w G q s.2 ∧ Apart H G ∧ ¬ H o ∧ ¬ G o ∧ F o ∧ (∀ g, H g → F g) ∧ (∀ g, G g → F g) ∧ ∀ g, F g → g < w.heap.size
theorem Ob.kind (h : Ob w F o k m pl s) : k = 1 ∨ k = 2 ∨ k = 3 := by obtain ⟨_, _, _, _, _, h, _⟩ := h; exact h.kind
theorem Ob.foot (h : Ob w F o k m pl s) : ∀ g, F g → g < w.heap.size := by obtain ⟨_, _, _, _, _, _, _, _, _, _, _, _, _, h⟩ := h; exact h
theorem Ob.room (h : Ob w F o k m pl s) : (s.1.length : Int) ≤ m ∧ 0 ≤ m ∧ m ≤ 1000 := by obtain ⟨_, _, _, _, _, h, _⟩ := h; exact h.room
theorem Ob.apart (h : Ob w F o k m pl s) (hw : Wrote G w w') (ha : Apart F G) : Ob w' F o k m pl s := by
  obtain ⟨H, C, p, q, h1, h2, h3, h4, h5, h6, h7, h8, h9, h10⟩ := h
  exact ⟨H, C, p, q, h1.keep (hw.block o h1.lt (fun e => ha o h7 e)), h2.apart hw (fun g a b => ha g (h8 g a) b), h3.apart hw (fun g a b => ha g (h9 g a) b), h4, h5, h6, h7, h8, h9, fun g hg => Nat.lt_of_lt_of_le (h10 g hg) hw.size⟩
theorem Ob.fresh (h : Ob w F o k m pl s) (hb : Below w.heap.size w w') : Ob w' F o k m pl s := h.apart (Wrote.of hb (fun _ => False)) (fun _ _ h => h)

/-- What a call on it leaves. -/
def DidB (F : Nat → Prop) (o : Nat) (k m : Int) (pl : Bool) (s : List It × List Bool) (w w' : World) : Prop := ∃ F', Ob w' F' o k m pl s ∧ Wrote F w w' ∧ Later F F' w
theorem Ob.did (h : Ob w F o k m pl s) (hb : Below w.heap.size w w') : DidB F o k m pl s w w' := ⟨F, h.fresh hb, Wrote.of hb F, Later.refl _ _⟩

/-- An object that was made, out of a holder and a coin. -/
theorem Ob.made {w0 w1 w2 : World} (b0 : Below w.heap.size w w0) (h : Held k w1 (New w0 w1) p m l) (b1 : Below w0.heap.size w0 w1) {bs : List Bool} (c : Coin w2 (New w1 w2) q bs) (b2 : Below w1.heap.size w1 w2) (pl : Bool) :
    ∀ W, w2.alloc (.cells #[holdV (tyOf k) p, .pointer (some ⟨q, 0, none⟩), .bool pl] 107) = W → Ob W (New w W) w2.heap.size k m pl (l, bs) ∧ Below w.heap.size w W := by
  rintro W rfl
  have s0 := b0.size
  have s1 := b1.size
  have s2 := b2.size
  have hb : Below w2.heap.size w2 (w2.alloc (.cells #[holdV (tyOf k) p, .pointer (some ⟨q, 0, none⟩), .bool pl] 107)) := (Below.refl _ _).alloc (Nat.le_refl _) _
  have sz : (w2.alloc (.cells #[holdV (tyOf k) p, .pointer (some ⟨q, 0, none⟩), .bool pl] 107)).heap.size = w2.heap.size + 1 := by simp
  refine ⟨⟨New w0 w1, New w1 w2, p, q, OBlk.new w2 _ q pl, (h.apart (Wrote.of b2 (fun _ => False)) (fun _ _ h => h)).apart (Wrote.of hb (fun _ => False)) (fun _ _ h => h), c.fresh hb, fun g a b => ?_, fun a => ?_, fun a => ?_, ⟨?_, ?_⟩, fun g a => ⟨?_, ?_⟩, fun g a => ⟨?_, ?_⟩, fun g a => a.2⟩, ((b0.trans (b1.mono s0)).trans (b2.mono (Nat.le_trans s0 s1))).trans (hb.mono (by omega))⟩
  · have := a.2; have := b.1; omega
  · have := a.2; omega
  · have := a.2; omega
  · omega
  · omega
  · have := a.1; omega
  · have := a.2; omega
  · have := a.1; omega
  · have := a.2; omega

/-- Its blocks behind a call. -/
def OF (o : Nat) (H G : Nat → Prop) : Nat → Prop := fun g => g = o ∨ H g ∨ G g
/-- Behind a call on the holder (and, it may be, on the coin). -/
theorem Ob.next {w2 : World} {H' G' C : Nat → Prop} (x : OBlk w o (holdV (tyOf k) p) q pl) (n1 : ¬ H o) (n2 : ¬ C o) (f0 : F o) (f1 : ∀ g, H g → F g) (f2 : ∀ g, C g → F g)
    (h : Held k w2 H' p m s'.1) (c : Coin w2 G' q s'.2) (ap : Apart H' G') (wr : Wrote (fun g => H g ∨ C g) w w2) (lH : Later H H' w) (lC : Later C G' w) : Ob w2 (OF o H' G') o k m pl s' ∧ Wrote F w w2 ∧ Later F (OF o H' G') w := by
  refine ⟨⟨H', G', p, q, x.keep (wr.block o x.lt (fun e => e.elim n1 n2)), h, c, ap, lH.not n1 x.lt, lC.not n2 x.lt, .inl rfl, fun g a => .inr (.inl a), fun g a => .inr (.inr a), fun g a => ?_⟩, wr.into (fun g hg => hg.elim (f1 g) (f2 g)), fun g hg => ?_⟩
  · rcases a with rfl | a | a
    · exact Nat.lt_of_lt_of_le x.lt wr.size
    · exact h.foot g a
    · exact c.foot g a
  · rcases hg with rfl | hg | hg
    · exact .inl f0
    · exact (lH g hg).imp (f1 g) id
    · exact (lC g hg).imp (f2 g) id
end

end Go.Proofs.YtkbhemaijbkpbaaGreat
namespace Go.Proofs.YtkbhemaijbkpbaaGreat
open Go.RowKit Go.Lib

/-- What New leaves. -/
def ObNew (w : World) (k m : Int) (pl : Bool) (s : List It × List Bool) (e : Ending) (w' : World) : Prop := ∃ o, e = .returned (.pointer (some ⟨o, 0, none⟩)) ∧ Ob w' (New w w') o k m pl s ∧ Below w.heap.size w w'

set_option maxRecDepth 100000 in
set_option maxHeartbeats 3200000 in
theorem obNew1 (n : Int) (pl : Bool) (w : World) :
    Calls Tryz.prog 17 #[.int .u8 1, .int .i64 n, .bool pl] w (ObNew w 1 (mostOf n) pl ([], [])) := by
  have HM := Lib.hid (holdersAny w)
  go_enter Tryz.func17, Tryz.ntmps17
  go_wp2_with fail
  refine HM.out.mono ?_
  clear HM
  rintro e w0 ⟨b0, m, rfl, hm⟩
  have L := run_look8 w0 100 5 98 m holdM 1 true 0 _ Tryz.underlying100 Tryz.underlying5 hm rfl
  have HB := Lib.hid b0
  clear b0 hm
  go_wp2_with fail
  refine (holdNew1 n w0).mono ?_
  clear L
  rintro e w1 ⟨p, rfl, h1, b1⟩
  have H1 := Lib.hid (And.intro (show Held 1 w1 (New w0 w1) p (mostOf n) [] from .inl ⟨rfl, h1⟩) b1)
  clear h1 b1
  unfold holdV
  go_wp2_with fail
  refine (newC w1).mono ?_
  rintro e w2 ⟨rfl, h2, b2⟩
  have H2 := Lib.hid (Ob.made HB.out H1.out.1 H1.out.2 h2 b2 pl _ rfl)
  clear h2 b2 HB H1
  go_wp2
  go_ret
  exact ⟨_, rfl, H2.out.1, H2.out.2⟩

set_option maxRecDepth 100000 in
set_option maxHeartbeats 3200000 in
theorem obNew2 (n : Int) (pl : Bool) (w : World) :
    Calls Tryz.prog 17 #[.int .u8 2, .int .i64 n, .bool pl] w (ObNew w 2 (mostOf n) pl ([], [])) := by
  have HM := Lib.hid (holdersAny w)
  go_enter Tryz.func17, Tryz.ntmps17
  go_wp2_with fail
  refine HM.out.mono ?_
  clear HM
  rintro e w0 ⟨b0, m, rfl, hm⟩
  have L := run_look8 w0 100 5 98 m holdM 2 true 1 _ Tryz.underlying100 Tryz.underlying5 hm rfl
  have HB := Lib.hid b0
  clear b0 hm
  go_wp2_with fail
  refine (holdNew2 n w0).mono ?_
  clear L
  rintro e w1 ⟨p, rfl, h1, b1⟩
  have H1 := Lib.hid (And.intro (show Held 2 w1 (New w0 w1) p (mostOf n) [] from .inr (.inl ⟨rfl, h1⟩)) b1)
  clear h1 b1
  unfold holdV
  go_wp2_with fail
  refine (newC w1).mono ?_
  rintro e w2 ⟨rfl, h2, b2⟩
  have H2 := Lib.hid (Ob.made HB.out H1.out.1 H1.out.2 h2 b2 pl _ rfl)
  clear h2 b2 HB H1
  go_wp2
  go_ret
  exact ⟨_, rfl, H2.out.1, H2.out.2⟩

set_option maxRecDepth 100000 in
set_option maxHeartbeats 3200000 in
theorem obNew3 (n : Int) (pl : Bool) (w : World) :
    Calls Tryz.prog 17 #[.int .u8 3, .int .i64 n, .bool pl] w (ObNew w 3 (mostOf n) pl ([], [])) := by
  have HM := Lib.hid (holdersAny w)
  go_enter Tryz.func17, Tryz.ntmps17
  go_wp2_with fail
  refine HM.out.mono ?_
  clear HM
  rintro e w0 ⟨b0, m, rfl, hm⟩
  have L := run_look8 w0 100 5 98 m holdM 3 true 2 _ Tryz.underlying100 Tryz.underlying5 hm rfl
  have HB := Lib.hid b0
  clear b0 hm
  go_wp2_with fail
  refine (holdNew3 n w0).mono ?_
  clear L
  rintro e w1 ⟨p, rfl, h1, b1⟩
  have H1 := Lib.hid (And.intro (show Held 3 w1 (New w0 w1) p (mostOf n) [] from .inr (.inr ⟨rfl, SkO.of h1⟩)) b1)
  clear h1 b1
  unfold holdV
  go_wp2_with fail
  refine (newC w1).mono ?_
  rintro e w2 ⟨rfl, h2, b2⟩
  have H2 := Lib.hid (Ob.made HB.out H1.out.1 H1.out.2 h2 b2 pl _ rfl)
  clear h2 b2 HB H1
  go_wp2
  go_ret
  exact ⟨_, rfl, H2.out.1, H2.out.2⟩

theorem obNew (k n : Int) (pl : Bool) (w : World) (hk : k = 1 ∨ k = 2 ∨ k = 3) :
    Calls Tryz.prog 17 #[.int .u8 k, .int .i64 n, .bool pl] w (ObNew w k (mostOf n) pl ([], [])) := by
  rcases hk with rfl | rfl | rfl
  · exact obNew1 n pl w
  · exact obNew2 n pl w
  · exact obNew3 n pl w

end Go.Proofs.YtkbhemaijbkpbaaGreat
namespace Go.Proofs.YtkbhemaijbkpbaaGreat
open Go.RowKit

def SwRel (w : World) (g n cap : Nat) (P A Q B S : List Int) (i : Value) (wr : World) : Prop :=
  ∃ k : Nat, k ≤ A.length ∧ i = .int .i64 k ∧ IRow wr g n cap (P ++ (B.take k ++ A.drop k) ++ Q ++ (A.take k ++ B.drop k) ++ S) ∧ Wrote (At1 g) w wr

theorem sw_step {P A Q B S : List Int} {k : Nat} (hk : k < A.length) (hab : A.length = B.length) :
    ((P ++ (B.take k ++ A.drop k) ++ Q ++ (A.take k ++ B.drop k) ++ S).set (P.length + k) (B.getD k 0)).set (P.length + A.length + Q.length + k) (A.getD k 0)
      = P ++ (B.take (k + 1) ++ A.drop (k + 1)) ++ Q ++ (A.take (k + 1) ++ B.drop (k + 1)) ++ S := by
  have hkb : k < B.length := by omega
  have ea : A.drop k = A.getD k 0 :: A.drop (k + 1) := by rw [List.drop_eq_getElem_cons hk]; simp [List.getD, hk]
  have eb : B.drop k = B.getD k 0 :: B.drop (k + 1) := by rw [List.drop_eq_getElem_cons hkb]; simp [List.getD, hkb]
  have ta : A.take (k + 1) = A.take k ++ [A.getD k 0] := by rw [List.take_succ_eq_append_getElem hk]; simp [List.getD, hk]
  have tb : B.take (k + 1) = B.take k ++ [B.getD k 0] := by rw [List.take_succ_eq_append_getElem hkb]; simp [List.getD, hkb]
  have h := exch (P ++ B.take k) (A.drop (k + 1) ++ Q ++ A.take k) (B.drop (k + 1) ++ S) (A.getD k 0) (B.getD k 0)
  have l1 : (P ++ B.take k).length = P.length + k := by simp; omega
  have l2 : (P ++ B.take k).length + 1 + (A.drop (k + 1) ++ Q ++ A.take k).length = P.length + A.length + Q.length + k := by simp; omega
  rw [l2, l1] at h
  rw [ea, eb, ta, tb]
  simpa using h

theorem sw_cells {P A Q B S : List Int} {k : Nat} (hk : k < A.length) (hab : A.length = B.length) :
    (P ++ (B.take k ++ A.drop k) ++ Q ++ (A.take k ++ B.drop k) ++ S).getD (P.length + k) 0 = A.getD k 0 ∧
    (P ++ (B.take k ++ A.drop k) ++ Q ++ (A.take k ++ B.drop k) ++ S).getD (P.length + A.length + Q.length + k) 0 = B.getD k 0 := by
  have hkb : k < B.length := by omega
  have ea : A.drop k = A.getD k 0 :: A.drop (k + 1) := by rw [List.drop_eq_getElem_cons hk]; simp [List.getD, hk]
  have eb : B.drop k = B.getD k 0 :: B.drop (k + 1) := by rw [List.drop_eq_getElem_cons hkb]; simp [List.getD, hkb]
  constructor
  · have h := getD_head (P ++ B.take k) (A.drop (k + 1) ++ Q ++ (A.take k ++ B.drop k) ++ S) (A.getD k 0)
    have l1 : (P ++ B.take k).length = P.length + k := by simp; omega
    rw [l1] at h
    rw [ea]
    simpa using h
  · have h := getD_head (P ++ (B.take k ++ A.drop k) ++ Q ++ A.take k) (B.drop (k + 1) ++ S) (B.getD k 0)
    have l2 : (P ++ (B.take k ++ A.drop k) ++ Q ++ A.take k).length = P.length + A.length + Q.length + k := by simp; omega
    rw [l2] at h
    rw [eb]
    simpa using h

set_option maxRecDepth 100000 in
set_option maxHeartbeats 4000000 in
theorem swapRange (w : World) (g n cap : Nat) (P A Q B S : List Int) (a b m : Int) (f : Value) (h : IRow w g n cap (P ++ A ++ Q ++ B ++ S)) (hab : A.length = B.length) (hm : m = A.length) (ha : a = P.length) (hb : b = P.length + A.length + Q.length) (hn : n ≤ 1000000) :
    Calls Tryz.prog 247 #[.slice (some ⟨g, 0, none⟩) n cap, .int .i64 a, .int .i64 b, .int .i64 m, f] w (Rearr w g n cap (P ++ B ++ Q ++ A ++ S)) := by
  have hl : P.length + A.length + Q.length + B.length ≤ n := by have := h.len; simp at this; omega
  have HA := Lib.hid ha
  have HB := Lib.hid hb
  have HM := Lib.hid hm
  have a0 : 0 ≤ a := by omega
  have b0 : 0 ≤ b := by omega
  have ab : a + m ≤ n := by omega
  have bb : b + m ≤ n := by omega
  have m0 : 0 ≤ m := by omega
  clear ha hb hm
  have HS := Lib.hid (show SwRel w g n cap P A Q B S (.int .i64 0) w from ⟨0, Nat.zero_le _, rfl, by simpa using h, Wrote.refl _ _⟩)
  clear h
  go_enter Tryz.func247, Tryz.ntmps247
  go_wp2
  go_loopw [10] (fun i wr => SwRel w g n cap P A Q B S i wr) (fun i _ => A.length - (intOf i).toNat)
  case atStart => exact HS.out
  case round =>
    obtain ⟨k, hk, rfl, hr, hw⟩ := hrel
    have HR := Lib.hid hr
    have HW := Lib.hid hw
    clear HS hr hw
    by_cases hlt : k < A.length
    · have hlt' : (k : Int) < m := by have := HM.out; omega
      obtain ⟨x, hx⟩ : ∃ x, A.getD k 0 = x := ⟨_, rfl⟩
      obtain ⟨y, hy⟩ : ∃ y, B.getD k 0 = y := ⟨_, rfl⟩
      obtain ⟨p, hp⟩ : ∃ p, P.length + k = p := ⟨_, rfl⟩
      obtain ⟨q, hq⟩ : ∃ q, P.length + A.length + Q.length + k = q := ⟨_, rfl⟩
      have hc := sw_cells (P := P) (Q := Q) (S := S) hlt hab
      rw [hx, hy, hp, hq] at hc
      have c1 := HR.out.cell (i := p) (by omega)
      have c2 := HR.out.cell (i := q) (by omega)
      rw [hc.1] at c1
      rw [hc.2] at c2
      have f1 := HR.out.free p
      have f2 := HR.out.free q
      obtain ⟨u, c3⟩ := HR.out.still (i := p) (j := q) (by omega) (by omega) y
      have HN := Lib.hid (HR.out.swap p q y x)
      have HV := Lib.hid (HW.out.trans (wrote_swap wr g p q (.int .i64 y) (.int .i64 x)))
      have e1 : (a + (k : Int)).toNat = p := by have := HA.out; omega
      have e2 : (b + (k : Int)).toNat = q := by have := HB.out; omega
      have e3 : IntKind.i64.wrap (a + (k : Int)) = a + k := by rw [IntKind.wrap_i64]; omega
      have e4 : IntKind.i64.wrap (b + (k : Int)) = b + k := by rw [IntKind.wrap_i64]; omega
      have e5 : 0 ≤ a + (k : Int) := by omega
      have e6 : 0 ≤ b + (k : Int) := by omega
      have e7 : a + (k : Int) < n := by omega
      have e8 : b + (k : Int) < n := by omega
      have HX := Lib.hid (And.intro (And.intro hx hy) (And.intro hp hq))
      clear hc hx hy hp hq HR HW
      go_wp2_with fail
      go_big_region
      clear c1 c2 c3 f1 f2 e1 e2 e3 e4
      generalize ((wr.setCell ⟨g, p, none⟩ (.int .i64 y)).setCell ⟨g, q, none⟩ (.int .i64 x)).drew = w2 at *
      go_wp2
      go_roundw
      case rel => exact ⟨k + 1, by omega, by go_num, by have e := sw_step (P := P) (Q := Q) (S := S) hlt hab; rw [HX.out.1.1, HX.out.1.2, HX.out.2.1, HX.out.2.2] at e; rw [← e]; exact HN.out, HV.out⟩
      case measure => simp [intOf]; omega
    · obtain rfl : k = A.length := by omega
      have hlt' : ¬ ((A.length : Nat) : Int) < m := by have := HM.out; omega
      have HF := Lib.hid (show IRow wr g n cap (P ++ B ++ Q ++ A ++ S) by have := HR.out; rw [List.take_of_length_le (show B.length ≤ A.length by omega), List.take_of_length_le (show A.length ≤ A.length by omega), List.drop_eq_nil_of_le (show A.length ≤ A.length by omega), List.drop_eq_nil_of_le (show B.length ≤ A.length by omega)] at this; simpa using this)
      clear HR
      go_wp2
      go_end0
      exact ⟨rfl, by simpa using HF.out, HW.out⟩

end Go.Proofs.YtkbhemaijbkpbaaGreat
