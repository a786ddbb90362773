/-
  What Items of package ring tells, at every deque and at nil: its items, from left to right, in new memory. Conditions: a deque as Rng says.
-/
import Derived.Test.YthjcfeljbmehmaaMethodSeq
namespace Go.Proofs.Ythjcfeljbmehmaa
open Go.RowKit Go.Shelf

attribute [local go_sem] Oper.semAt_some

def itemV (zs : List Int) (k : Nat) : Array Value := #[.int .i32 (zs.getD k 0)]

set_option maxRecDepth 100000 in
set_option maxHeartbeats 2000000 in
theorem allSeq (n : Nat) {p g f : Nat} {ds zs : List Int} (hh : Holds ds f zs) (hl : ds.length ≤ 1000) (I : Nat → World → Prop) (hI : ∀ k W, I k W → Raw W p g ds f zs.length) :
    SeqOf Fence.wide n Try.prog 31 (.pointer (some ⟨p, 0, none⟩)) (itemV zs) zs.length I := by
  intro l J W hJI hJd hY h0
  have c2 := (hI 0 W (hJI 0 W h0)).c2
  have hro := hh.room
  have HJI := Lib.hid (fun k A h => hI k A (hJI k A h))
  have HJD := Lib.hid hJd
  have HY := Lib.hid hY
  have HH := Lib.hid hh
  clear hh hI hJI hJd hY
  refine callsIn_of_wp Try.func31 rfl trivial ?_ rfl
  simp only [Try.ntmps31, List.size_toArray, List.length_cons, List.length_nil, Nat.reduceAdd, Nat.reduceSub, Array.replicate_succ, Array.replicate_zero, List.push_toArray, List.append_toArray, List.nil_append, List.cons_append]
  gi_wp2
  gi_loopw [9] (fun i wr => ∃ k : Nat, k ≤ zs.length ∧ i = .int .i64 k ∧ J k wr) (fun i _ => zs.length - (intOf i).toNat)
  case atStart => exact ⟨0, Nat.zero_le _, rfl, h0⟩
  case round =>
    obtain ⟨k, hk, rfl, hJ⟩ := hrel
    clear c2 h0
    by_cases hlt : k < zs.length
    · have hr := HJI.out k wr hJ
      have hfl := HH.out.lt (by omega)
      have hpl := pos_lt hfl (show k ≤ ds.length by omega)
      have C := placeAny hr hfl hl k (by omega)
      have HR := Lib.hid hr
      have HV := Lib.hid (HH.out.item k hlt)
      have HJ := Lib.hid hJ
      have i0 : (k : Int) < zs.length := by omega
      clear hr hJ
      gi_wp2_with fail
      refine ⟨trivial, ?_⟩
      refine ⟨(fun h => by simp [Fence.wide] at h), ?_⟩
      refine (callsIn_wide.2 C).mono ?_
      clear C
      rintro e w1 ⟨rfl, q, rfl⟩
      have c := (HR.out.drewN q).cell _ hpl
      rw [HV.out] at c
      have HJ1 := Lib.hid (HJD.out k wr q HJ.out)
      clear HR HJ
      generalize wr.drewN q = W1 at *
      generalize pos ds.length f k = r0 at *
      obtain ⟨fn, tmps, assign, body, hy, hR⟩ := HY.out k W1 HJ1.out hlt
      have HR := Lib.hid hR
      clear hR
      simp only [itemV] at hy
      generalize zs.getD k 0 = y at *
      gi_wp2_with fail
      refine ⟨(fun h => by simp [Fence.wide] at h), HR.out.mono ?_⟩
      rintro e3 W3 ⟨rfl, hJ3⟩
      have HJ3 := Lib.hid hJ3
      clear hJ3 c hy
      gi_wp2
      go_roundw
      case rel => exact ⟨k + 1, by omega, by go_num, HJ3.out⟩
      case measure => simp [intOf]; omega
    · obtain rfl : k = zs.length := by omega
      have HJ := Lib.hid hJ
      clear hJ
      gi_wp2
      go_end0
      exact ⟨⟨_, rfl⟩, HJ.out⟩

/-- Numbers in new memory. -/
def Told (w : World) (zs : List Int) (e : Ending) (w' : World) : Prop :=
  e = .returned (.slice (some ⟨w.heap.size, 0, none⟩) zs.length zs.length) ∧ w'.ownsRow w.heap.size 21 1 (.slice (some ⟨w.heap.size, 0, none⟩) zs.length zs.length) zs.length (zs.map (Value.int .i32)) ∧ Below w.heap.size w w'

/-- What holds between two rounds: the first k items are told. -/
def Inv (w : World) (B p g f : Nat) (ds zs : List Int) (k : Nat) (W : World) : Prop :=
  (∃ v, Boxed W B 36 v ∧ W.ownsRow w.heap.size 21 1 v k ((zs.take k).map (Value.int .i32)) ∧ v = .slice (some ⟨w.heap.size, 0, none⟩) k zs.length) ∧ Raw W p g ds f zs.length ∧ Below w.heap.size w W

theorem raw_own {β : Type} (p g : Nat) (ds : List Int) (f n : Nat) : Own (fun (_ : β) W => Raw W p g ds f n) := fun s X Y row hs hg hrow => by
  refine hs.keep (hg.block p hs.lt fun e => ?_) (hg.block g hs.ltg fun e => ?_)
  · obtain ⟨o, ho, hc⟩ := hrow p e.symm
    rw [hs.block] at ho; cases ho; cases hc
  · obtain ⟨o, ho, hc⟩ := hrow g e.symm
    rw [hs.data] at ho; cases ho; cases hc

theorem Inv.own (w : World) (B p g f : Nat) (ds zs : List Int) (n : Nat) (hn : w.heap.size ≤ n) : OwnFrom n (Inv w B p g f ds zs) :=
  OwnFrom.and (Own.from (holdsRow_own w.heap.size B 36 21 1 (fun k => k) (fun k => (zs.take k).map (Value.int .i32)) (fun k v => v = .slice (some ⟨w.heap.size, 0, none⟩) k zs.length)) _)
    (OwnFrom.and (Own.from (raw_own p g ds f zs.length) _) (ownFrom_below (Nat.le_refl _) hn))

/-- What a round has left that has appended an item. -/
theorem itemsRound {w W w4 : World} {B p g f k n : Nat} {ds : List Int} {x : Value} {xs : List Value} {tmp : Obj} {v v' : Value}
    (hv : Boxed W B 36 v) (hrow : W.ownsRow w.heap.size 21 1 v k xs) (hr : Raw W p g ds f n) (hB : Below w.heap.size w W) (hsz : w.heap.size ≤ B)
    (hown : w4.ownsRow w.heap.size 21 1 v' (k + 1) (xs ++ [x])) (hg : (W.alloc tmp).grownBy w4 v.ownBlock) (hp : p < w.heap.size) (hgg : g < w.heap.size) :
    Boxed w4 B 36 v ∧ (∀ m, KeepsFrom m W (w4.setCell ⟨B, 0, none⟩ v')) ∧ Boxed (w4.setCell ⟨B, 0, none⟩ v') B 36 v' ∧ (w4.setCell ⟨B, 0, none⟩ v').ownsRow w.heap.size 21 1 v' (k + 1) (xs ++ [x]) ∧
    Raw (w4.setCell ⟨B, 0, none⟩ v') p g ds f n ∧ Below w.heap.size w (w4.setCell ⟨B, 0, none⟩ v') := by
  obtain ⟨a1, a2, a3, a4, a5⟩ := hv.appended (by decide) hrow hB.size hsz hown hg
  exact ⟨a1, fun _ => a4.from _, a2, a3, hr.keep (a5.block p hp) (a5.block g hgg), hB.trans a5⟩

set_option maxRecDepth 100000 in
set_option maxHeartbeats 4000000 in
theorem itemsAny {w : World} {F : Nat → Prop} {p : Nat} {most : Int} {zs : List Int} (h : Rng w F p most zs) :
    Calls Try.prog 16 #[.pointer (some ⟨p, 0, none⟩)] w (Told w zs) := by
  have hz := h.len
  obtain ⟨g, ds, f, h1, h2, _, h4, _⟩ := h
  obtain ⟨i0, hi, hz0, hz1, hz2⟩ := info_parts infoI32
  have c2 := h1.c2
  have HR := Lib.hid h1
  have HH := Lib.hid h2
  clear h1 h2
  refine (callsIn_wide (n := 3)).1 ?_
  refine callsIn_of_wp_marks Try.func16 rfl trivial ?_ rfl
  simp only [Try.ntmps16, List.size_toArray, List.length_cons, List.length_nil, Nat.reduceAdd, Nat.reduceSub, Array.replicate_succ, Array.replicate_zero, List.push_toArray, List.append_toArray, List.nil_append, List.cons_append]
  gi_wp2_with (gi_at_make; refine wpListIn_make_own _ rfl _ _ 36 rfl w.heap.size 21 i0 _ 1 Try.underlying36 hi hz0 hz1 .i64 .i64 _ zs.length rfl rfl rfl (by rw [hz2]; omega) (by simp only [maxLen]; omega) (Nat.le_refl _) ?_; intro w1 hown1 hgrow1; have HO1 := Lib.hid hown1; have HG1 := Lib.hid hgrow1; clear hown1 hgrow1)
  have bL := Boxed.new w1 36 (.slice (some ⟨w.heap.size, 0, none⟩) 0 zs.length)
  have oW := HO1.out.alloc (.cells #[.slice (some ⟨w.heap.size, 0, none⟩) 0 zs.length] 36)
  have b1 : Below w.heap.size w w1 := (Below.refl _ w).grown HG1.out (Nat.le_refl _) (fun k e => by cases e)
  have bW := b1.alloc b1.size (.cells #[.slice (some ⟨w.heap.size, 0, none⟩) 0 zs.length] 36)
  have hsz := b1.size
  generalize w1.alloc (.cells #[.slice (some ⟨w.heap.size, 0, none⟩) 0 zs.length] 36) = W0 at *
  clear b1 HO1 HG1
  generalize w1.heap.size = B at *
  have rW := HR.out.keep (bW.block p HR.out.lt) (bW.block g HR.out.ltg)
  have lt0 := bL.lt
  refine wpIn_rangeMethod rfl (by omega) (gf := 31) (r := .pointer (some ⟨p, 0, none⟩)) rfl trivial (enters_of Try.func31 (by kernel_rfl) rfl) (itemV zs) (fun _ => rfl) zs.length
    (Inv w B p g f ds zs) (allSeq (3 - 1) HH.out h4 _ (fun k W h => h.2.1)) (Inv.own w B p g f ds zs _ bW.size) ⟨⟨_, bL, by simpa using oW, rfl⟩, rW, bW⟩
    (fun k => { tmps := #[.pointer (some ⟨p, 0, none⟩), undef, .slice none 0 0, .pointer (some ⟨B, 0, none⟩), .int .i32 (zs.getD k 0), .pointer (some ⟨p, 0, none⟩), .bool false, .pointer (some ⟨p, 0, none⟩), .pointer (some ⟨p, 0, none⟩), .pointer (some ⟨p, 0, none⟩), .pointer (some ⟨p, 2, none⟩), .int .i64 zs.length, .slice (some ⟨w.heap.size, 0, none⟩) 0 zs.length, .pointer (some ⟨p, 0, none⟩), .pointer (some ⟨p, 0, none⟩), .pointer (some ⟨p, 0, none⟩), .func (.func 31) #[.pointer (some ⟨p, 0, none⟩)] #[], .int .i32 (zs.getD k 0), undef, undef, undef, undef, undef], defers := [] }) ?assign ?body ?done
  case assign =>
    intro l k W K hK
    simp only [itemV]
    gi_wp2
    exact hK
  case body =>
    rintro l k W ⟨⟨v, hv, hrow, rfl⟩, hr, hB⟩ hlt
    have hc := hv.cell
    have HV := Lib.hid hv
    have HRow := Lib.hid hrow
    have HRaw := Lib.hid hr
    have HE := Lib.hid hB
    have HBn := Lib.hid hsz
    have HT := Lib.hid (show (zs.take k).map (Value.int .i32) ++ [.int .i32 (zs.getD k 0)] = (zs.take (k + 1)).map (Value.int .i32) by rw [List.take_succ_eq_append_getElem hlt, List.map_append]; congr 1; simp [List.getD, hlt])
    clear hv hrow hr hB rW bW oW bL hsz lt0 c2
    generalize zs.getD k 0 = y at *
    gi_wp2_with (gi_at_builtin; refine wpListIn_append_fits _ rfl _ _ 36 rfl w.heap.size 21 i0 1 Try.underlying36 hi hz1 w.heap.size k zs.length _ rfl (HRow.out.alloc _) ⟨W.heap.size, 0, none⟩ 1 1 [.int .i32 y] rfl rfl (by intro j u hu; cases j <;> simp at hu; subst hu; go_simp) (by intro u hu; simp at hu; subst hu; rfl) (by omega) ?_; intro w4 hown' hgrow; have HA := Lib.hid (itemsRound HV.out HRow.out HRaw.out HE.out HBn.out hown' hgrow HR.out.lt HR.out.ltg); clear hown' hgrow; have k4 := HA.out.1.cell; have f4 := HA.out.1.frozen)
    obtain ⟨_, a1, a2, a3, a4, a5⟩ := HA.out
    exact ⟨a1 _, ⟨_, a2, by rw [← HT.out]; exact a3, rfl⟩, a4, a5⟩
  case done =>
    rintro D W hD ⟨⟨v, hv, hrow, rfl⟩, hr, hB⟩ hK
    have hc := hv.cell
    have HRow := Lib.hid hrow
    have HE := Lib.hid hB
    have HD := Lib.hid hD
    have HW := Lib.hid bW
    clear hrow hB hr rW bW oW bL hD c2
    gi_wp2
    refine ⟨by simp, .inl ⟨_, _, rfl, run_takeDeferred hK, ?_⟩⟩
    refine ⟨_, results_tmp rfl _ _ _, rfl, ownsRow_putObj (by have := HRow.out; rwa [List.take_of_length_le (Nat.le_refl _)] at this) _ hK rfl, HE.out.trans (belowK_b (w := w) (Nat.le_refl _) W D _ _ (Nat.le_trans HW.out.size HD.out) hK rfl rfl)⟩

theorem itemsNil (w : World) :
    Calls Try.prog 16 #[.pointer none] w fun e w' => e = .returned (.slice none 0 0) ∧ w = w' := by
  go_enter Try.func16, Try.ntmps16
  go_wp2
  go_ret
  exact ⟨rfl, rfl⟩

end Go.Proofs.Ythjcfeljbmehmaa
