/-
  What Vals, and Feed and Do of Object, of reaperref12 tell. Conditions: at most a thousand items and a thousand operations; bits that lie in memory. What Do of Object of reaperref12 tells, and leaves. Conditions: at most a thousand items and a thousand operations; bits that lie in memory.
-/
import Derived.Test.YtniefplgijpckaaGreatRefAp11m
import Derived.Test.YtniefplgijpckaaGreatRefD12
import Derived.Test.YtniefplgijpckaaGreatRefE12
import Derived.Test.YtniefplgijpckaaGreatKn12m
import Derived.Test.YtniefplgijpckaaGreatRefBat12m
namespace Go.Proofs.YtniefplgijpckaaGreat
open Go.RowKit Go.Lib

theorem vals_take1 {l : List It} {k : Nat} (h : k < l.length) : vals (l.take (k + 1)) = vals (l.take k) ++ [(l.getD k ⟨0, 0⟩).v] := by
  have e : l.getD k ⟨0, 0⟩ = l[k] := by simp [List.getD, h]
  rw [e, List.take_succ_eq_append_getElem h]
  unfold vals
  rw [List.map_append]
  rfl

set_option maxRecDepth 100000 in
set_option maxHeartbeats 8000000 in
theorem refVals (w : World) (ao : Option Addr) (n cap : Nat) (l : List It) (h : ItemsAt w ao n l) (hn : n ≤ 1000) :
    Calls Tryz.prog 37 #[.slice ao n cap] w (ToldR w (vals l)) := by
  obtain ⟨i0, hi, hz0, hz1, hz2⟩ := info_parts infoI32
  have HI := Lib.hid h
  have HL := Lib.hid h.1
  clear h
  go_enter Tryz.func37, Tryz.ntmps37
  go_wp2
  go_loopw [3, 4] (fun v i wr => ∃ k : Nat, k ≤ n ∧ i = .int .i64 k ∧ NumsOwn w (vals (l.take k)) v wr) (fun _ i _ => n - (intOf i).toNat)
  case atStart => exact ⟨0, Nat.zero_le _, rfl, NumsOwn.none w⟩
  case round =>
    obtain ⟨k, hk, rfl, hN⟩ := hrel
    obtain ⟨a1, cp1, rfl⟩ := ownShape hN.1
    have HN := Lib.hid hN
    clear hN
    by_cases hlt : k < n
    · have hkl : k < l.length := by rw [HL.out]; exact hlt
      obtain ⟨b, off, rfl, hbl, hc⟩ := HI.out.2 (by omega)
      have c0 := (HN.out.2.cell (p := ⟨b, _, none⟩) hbl).trans (hc _ _ (flatI_at l k hkl).1)
      have HLk := Lib.hid (show (vals (l.take k)).length ≤ 1000 by rw [vals_length, List.length_take]; omega)
      have HE := Lib.hid (vals_take1 hkl)
      have HNb := Lib.hid HN.out.2
      have i1 : (k : Int) < n := by omega
      clear hc hkl hbl
      generalize (l.getD k ⟨0, 0⟩).v = y at *
      go_wp2_with (at_builtin; refine wpList_append_own _ rfl _ _ 32 rfl w.heap.size 21 i0 _ 1 4 Tryz.underlying32 hi hz0 hz1 hz2 rfl (by decide) _ _ _ rfl (HN.out.1.alloc _) ⟨wr.heap.size, 0, none⟩ 1 1 [.int .i32 y] rfl rfl (cell_one_new _ _ _) (by simp [Value.oneCell']) (by have := HLk.out; simp only [maxLen]; omega) (by have := HLk.out; omega) (Nat.le_trans HNb.out.size (by simp)) ?_; intro v' w4 q4 g4 _; have H4 := Lib.hid (HN.out.more HE.out q4 g4); clear q4 g4)
      go_roundw
      case rel => exact ⟨k + 1, by omega, by go_num, H4.out⟩
      case measure => simp [intOf]; omega
    · obtain rfl : n = k := by omega
      rw [show l.take n = l from List.take_of_length_le (by rw [HL.out]; exact Nat.le_refl _)] at HN ⊢
      have HQ := Lib.hid HN.out.told
      clear HN
      go_wp2
      go_ret
      exact HQ.out

/-- The document's object in a block of its own. -/
def ROB (w : World) (g : Nat) (k m : Int) (iv bv : Value) : Prop := w.heap[g]? = some (.cells #[.int .u8 k, .int .i64 m, iv, bv] 58 (0, 0))
section
variable {w w' : World} {g : Nat} {k m : Int} {iv bv iv' bv' : Value}
theorem ROB.lt (h : ROB w g k m iv bv) : g < w.heap.size := lt_of_block h
theorem ROB.c0 (h : ROB w g k m iv bv) : w.cell? ⟨g, 0, none⟩ = some (.int .u8 k) := by unfold ROB at h; simp [World.cell?, h]
theorem ROB.c1 (h : ROB w g k m iv bv) : w.cell? ⟨g, 1, none⟩ = some (.int .i64 m) := by unfold ROB at h; simp [World.cell?, h]
theorem ROB.c2 (h : ROB w g k m iv bv) : w.cell? ⟨g, 2, none⟩ = some iv := by unfold ROB at h; simp [World.cell?, h]
theorem ROB.c3 (h : ROB w g k m iv bv) : w.cell? ⟨g, 3, none⟩ = some bv := by unfold ROB at h; simp [World.cell?, h]
theorem ROB.f (h : ROB w g k m iv bv) (j : Nat) : w.frozen? ⟨g, j, none⟩ = false := by unfold ROB at h; simp [World.frozen?, h]
theorem ROB.keep (h : ROB w g k m iv bv) (hb : Below w.heap.size w w') : ROB w' g k m iv bv := (hb.block g h.lt).trans h
theorem ROB.off {F : Nat → Prop} (h : ROB w g k m iv bv) (hn : ¬ F g) (hw : Wrote F w w') : ROB w' g k m iv bv := (hw.block g h.lt hn).trans h
theorem ROB.other {p : Nat} (h : ROB w g k m iv bv) (hn : g ≠ p) (i : Nat) (u : Value) : ROB (w.setCell ⟨p, i, none⟩ u) g k m iv bv := h.off (F := fun x => x = p) hn (wrote1 w p i u)
theorem ROB.set2 (h : ROB w g k m iv bv) (v : Value) : ROB (w.setCell ⟨g, 2, none⟩ v) g k m v bv := by
  unfold ROB at h ⊢
  rw [heap_setCell_same w g 2 _ _ _ h]
  rfl
theorem ROB.set3 (h : ROB w g k m iv bv) (v : Value) : ROB (w.setCell ⟨g, 3, none⟩ v) g k m iv v := by
  unfold ROB at h ⊢
  rw [heap_setCell_same w g 3 _ _ _ h]
  rfl
theorem ROB.all {k' m' : Int} (h : ROB w g k m iv bv) (iv' bv' : Value) : ROB ((((w.setCell ⟨g, 0, none⟩ (.int .u8 k')).setCell ⟨g, 1, none⟩ (.int .i64 m')).setCell ⟨g, 2, none⟩ iv').setCell ⟨g, 3, none⟩ bv') g k' m' iv' bv' := by
  unfold ROB at h ⊢
  rw [heap_setCell_same _ g 3 _ _ _ (heap_setCell_same _ g 2 _ _ _ (heap_setCell_same _ g 1 _ _ _ (heap_setCell_same w g 0 _ _ _ h)))]
  rfl
theorem ROB.new (w : World) (k m : Int) (iv bv : Value) : ROB (w.alloc (.cells #[.int .u8 k, .int .i64 m, iv, bv] 58)) w.heap.size k m iv bv := heap_alloc_new w _
/-- The two boxes that a call of it begins with. -/
theorem robs (w : World) (k m : Int) (iv bv : Value) : ∀ W, (w.alloc (.cells #[.int .u8 k, .int .i64 m, iv, bv] 58)).alloc (.cells #[.int .u8 0, .int .i64 0, .slice none 0 0, .slice none 0 0] 58) = W →
    ROB W w.heap.size k m iv bv ∧ ROB W (w.heap.size + 1) 0 0 (.slice none 0 0) (.slice none 0 0) ∧ Below w.heap.size w W := by
  rintro W rfl
  have h := ROB.new (w.alloc (.cells #[.int .u8 k, .int .i64 m, iv, bv] 58)) 0 0 (.slice none 0 0) (.slice none 0 0)
  rw [show (w.alloc (.cells #[.int .u8 k, .int .i64 m, iv, bv] 58)).heap.size = w.heap.size + 1 by simp] at h
  exact ⟨(ROB.new w k m iv bv).keep ((Below.refl _ _).alloc (Nat.le_refl _) _), h, ((Below.refl _ _).alloc (Nat.le_refl _) _).alloc (by simp) _⟩
theorem wrote4 (w : World) (g : Nat) (a b c d : Value) : Wrote (fun x => x = g) w ((((w.setCell ⟨g, 0, none⟩ a).setCell ⟨g, 1, none⟩ b).setCell ⟨g, 2, none⟩ c).setCell ⟨g, 3, none⟩ d) :=
  (((wrote1 w g 0 a).setCell (q := ⟨g, 1, none⟩) (.inr rfl) b).setCell (q := ⟨g, 2, none⟩) (.inr rfl) c).setCell (q := ⟨g, 3, none⟩) (.inr rfl) d
end

/-- What Feed of the document leaves. -/
def ROFed (w : World) (k m : Int) (iv : Value) (bs : List Bool) (e : Ending) (w' : World) : Prop := ∃ v', e = .returned (.agg #[.int .u8 k, .int .i64 m, iv, v']) ∧ Fedd w bs v' w'

theorem tail_shape {w : World} {v : Value} {xs : List Value} (h : Tail w v xs) : ∃ ao cap, v = .slice ao xs.length cap := by
  rcases h with ⟨rfl, rfl⟩ | ⟨g, off, cap, rfl, _⟩
  · exact ⟨none, 0, rfl⟩
  · exact ⟨_, _, rfl⟩

set_option maxRecDepth 100000 in
set_option maxHeartbeats 8000000 in
theorem refOFeed (w : World) (k m : Int) (ai : Option Addr) (ni ci : Nat) (bv : Value) (bs : List Bool) (ao : Option Addr) (n cap : Nat) (zs : List Int) (hv : Tail w bv (bs.map Value.bool)) (hl : bs.length ≤ 20000) (hr : Reads .u8 w ao n zs) (hz : ∀ z ∈ zs, 0 ≤ z ∧ z ≤ 255) (hn : n ≤ 1000000) :
    Calls Tryz.prog 26 #[.agg #[.int .u8 k, .int .i64 m, (.slice ai ni ci), bv], .slice ao n cap] w (ROFed w k m (.slice ai ni ci) (feedL bs zs)) := by
  have HV := Lib.hid hv
  have HR := Lib.hid hr
  have HZ := Lib.hid hz
  clear hv hr hz
  go_enter Tryz.func26, Tryz.ntmps26
  go_upto_region 1 with (fail)
  generalize hW : (w.alloc (.cells #[.int .u8 k, .int .i64 m, (.slice ai ni ci), bv] 58)).alloc (.cells #[.int .u8 0, .int .i64 0, .slice none 0 0, .slice none 0 0] 58) = W
  obtain ⟨r0, r1, hb⟩ := robs w k m (.slice ai ni ci) bv W hW
  have C := refFeed W bv bs ao n cap zs (tail_below HV.out hb) hl (HR.out.keep hb) HZ.out hn
  have c3 := r0.c3
  have H0 := Lib.hid (And.intro r0 (And.intro r1 hb))
  clear hW r0 r1 hb
  go_wp2_with fail
  refine C.mono ?_
  clear C c3
  rintro e w2 ⟨v', rfl, hF⟩
  obtain ⟨va, vc, rfl⟩ := tail_shape hF.1
  rw [List.length_map] at hF ⊢
  obtain ⟨L, hL⟩ : ∃ L, (feedL bs zs).length = L := ⟨_, rfl⟩
  rw [hL] at hF ⊢
  clear hL
  have s0 := H0.out.1.keep hF.2.1
  have s1 := H0.out.2.1.keep hF.2.1
  have t0 := s0.set3 (.slice va L vc)
  have t1 := s1.other (p := w.heap.size) (by omega) 3 (.slice va L vc)
  have u1 := t1.all (k' := k) (m' := m) (.slice ai ni ci) (.slice va L vc)
  have x3 := s0.c3
  have xf := s0.f 3
  have a0 := t0.c0
  have a1 := t0.c1
  have a2 := t0.c2
  have a3 := t0.c3
  have b0 := t1.c0
  have b1 := t1.c1
  have b2 := t1.c2
  have b3 := t1.c3
  have bf := t1.f
  have d0 := u1.c0
  have d1 := u1.c1
  have d2 := u1.c2
  have d3 := u1.c3
  have HE := Lib.hid (show Fedd w (feedL bs zs) (.slice va L vc) (((((w2.setCell ⟨w.heap.size, 3, none⟩ (.slice va L vc)).setCell ⟨w.heap.size + 1, 0, none⟩ (.int .u8 k)).setCell ⟨w.heap.size + 1, 1, none⟩ (.int .i64 m)).setCell ⟨w.heap.size + 1, 2, none⟩ (.slice ai ni ci)).setCell ⟨w.heap.size + 1, 3, none⟩ (.slice va L vc)) from by
    have hs := H0.out.2.2.size
    have hl0 := H0.out.1.lt
    have hl1 := H0.out.2.1.lt
    have hw : Wrote (fun x => x = w.heap.size ∨ x = w.heap.size + 1) w2 (((((w2.setCell ⟨w.heap.size, 3, none⟩ (.slice va L vc)).setCell ⟨w.heap.size + 1, 0, none⟩ (.int .u8 k)).setCell ⟨w.heap.size + 1, 1, none⟩ (.int .i64 m)).setCell ⟨w.heap.size + 1, 2, none⟩ (.slice ai ni ci)).setCell ⟨w.heap.size + 1, 3, none⟩ (.slice va L vc)) :=
      ((wrote1 w2 w.heap.size 3 _).into (fun x h => .inl h)).trans ((wrote4 _ (w.heap.size + 1) _ _ _ _).into (fun x h => .inr h))
    have hbb : Below w.heap.size w w2 := H0.out.2.2.trans (hF.2.1.mono hs)
    refine ⟨hF.1.keep hw.size (fun g hg => hw.block g (hF.1.lt hg) (fun e => by have := hF.2.2 g hg; omega)), hbb.trans (hw.below hbb.size (fun g hg => by omega)), fun g hg => by have := hF.2.2 g hg; omega⟩)
  clear s0 s1 t0 t1 u1 hF H0 HV
  go_wp2
  exact bodyPost_ret (v := .agg #[.int .u8 k,   .int .i64 m, .slice ai ni ci, .slice va L vc]) (by simp [results, Tryz.results26, go_sem, d0, d1, d2, d3]) rfl ⟨_, rfl, HE.out⟩

end Go.Proofs.YtniefplgijpckaaGreat
namespace Go.Proofs.YtniefplgijpckaaGreat
open Go.RowKit Go.Lib

/-- What Do of the document leaves. -/
def RODo (w : World) (ai : Option Addr) (vb : Option Nat) (k most m : Int) (s : List It × List Bool) (os : List (Int × Int)) (e : Ending) (w' : World) : Prop :=
  ∃ a c v b, e = .returned (.tuple #[.agg #[.int .u8 k, .int .i64 most, .slice a (objS k m s os).1.length c, v], .slice (some ⟨b, 0, none⟩) os.length os.length]) ∧ ItemsAt w' a (objS k m s os).1.length (objS k m s os).1 ∧ (objS k m s os).1.length ≤ c ∧
    (∀ y, a = some y → 0 < (objS k m s os).1.length → w.heap.size ≤ y.block ∨ (0 < s.1.length ∧ ∃ y0, ai = some y0 ∧ y.block = y0.block)) ∧ Tail w' v ((objS k m s os).2.map Value.bool) ∧ v.ownBlock = vb ∧ RRow w' b (batT k m (vals s.1) os) ∧ w.heap.size ≤ b ∧ Below w.heap.size w w'

section
variable {w W w2 W3 : World} {ai : Option Addr} {vb : Option Nat} {k most m : Int} {s : List It × List Bool} {os : List (Int × Int)} {a : Option Addr} {c b n : Nat} {v : Value}
/-- What a call on the boxes' world told, behind the stores into the two boxes. -/
theorem RODo.mk (hb : Below w.heap.size w W) (sz : w.heap.size + 2 ≤ W.heap.size) (h2 : Below W.heap.size W w2) (hvb : ∀ g, vb = some g → g < w.heap.size) (hai : 0 < s.1.length → ∀ y, ai = some y → y.block < w.heap.size)
    (hi : ItemsAt w2 a (objS k m s os).1.length (objS k m s os).1) (hc : (objS k m s os).1.length ≤ c) (hp : ∀ y, a = some y → 0 < (objS k m s os).1.length → W.heap.size ≤ y.block ∨ (0 < s.1.length ∧ ∃ y0, ai = some y0 ∧ y.block = y0.block))
    (hv : Tail w2 v ((objS k m s os).2.map Value.bool)) (hvo : v.ownBlock = vb) (hr : RRow w2 b (batT k m (vals s.1) os)) (hbb : W.heap.size ≤ b) (hw : Wrote (fun x => x = w.heap.size ∨ x = w.heap.size + 1) w2 W3) :
    RODo w ai vb k most m s os (.returned (.tuple #[.agg #[.int .u8 k, .int .i64 most, .slice a (objS k m s os).1.length c, v], .slice (some ⟨b, 0, none⟩) os.length os.length])) W3 := by
  have h0 : Below w.heap.size w w2 := hb.trans (h2.mono hb.size)
  refine ⟨a, c, v, b, rfl, hi.off (fun hl y hy e => ?_) hw, hc, fun y hy hl => (hp y hy hl).imp (fun h => by omega) id, hv.keep hw.size (fun g hg => hw.block g (hv.lt hg) (fun e => by have := hvb g (hvo ▸ hg); omega)), hvo, (hw.block b hr.lt (fun e => by omega)).trans hr, by omega, h0.trans (hw.below h0.size (fun g hg => by omega))⟩
  rcases hp y hy hl with h | ⟨h, y0, e0, e1⟩
  · omega
  · have := hai h y0 e0; omega
end

set_option maxRecDepth 100000 in
set_option maxHeartbeats 16000000 in
theorem refODo3 (w : World) (most : Int) (ai : Option Addr) (ni ci : Nat) (bv : Value) (s : List It × List Bool) (ao : Option Addr) (n cap : Nat) (os : List (Int × Int)) (hi : ItemsAt w ai ni s.1) (hci : ni ≤ ci) (hni : ni ≤ 1000) (hv : Tail w bv (s.2.map Value.bool)) (hbs : s.2.length ≤ 20000) (ho : OpsAt w ao n os) (hn : n ≤ 1000) (hlm : (s.1.length : Int) ≤ mostOf most) :
    Calls Tryz.prog 27 #[.agg #[.int .u8 3, .int .i64 most, .slice ai ni ci, bv], .slice ao n cap] w (RODo w ai bv.ownBlock 3 most (mostOf most) s os) := by
  obtain ⟨l, bs⟩ := s
  obtain ⟨ba, bc, rfl⟩ := tail_shape hv
  rw [List.length_map] at hv ⊢
  have HI := Lib.hid hi
  have HV := Lib.hid hv
  have HO := Lib.hid ho
  have HN := Lib.hid ho.1
  clear hi hv ho
  go_enter Tryz.func27, Tryz.ntmps27
  go_upto_region 1 with (fail)
  generalize hW : (w.alloc (.cells #[.int .u8 3, .int .i64 most, .slice ai ni ci, .slice ba bs.length bc] 58)).alloc (.cells #[.int .u8 0, .int .i64 0, .slice none 0 0, .slice none 0 0] 58) = W
  obtain ⟨r0, r1, hb⟩ := robs w 3 most (.slice ai ni ci) (.slice ba bs.length bc) W hW
  have C := refBat11 W most ai ni ci (.slice ba bs.length bc) ao n cap l bs os (HI.out.keep hb) hci hni (tail_below HV.out hb) hbs (HO.out.keep hb) hn hlm
  have c0 := r0.c0
  have c1 := r0.c1
  have c2 := r0.c2
  have c3 := r0.c3
  have H0 := Lib.hid (And.intro r0 (And.intro r1 hb))
  clear hW r0 r1 hb
  go_wp2_with fail
  refine C.mono ?_
  clear C c0 c1 c2 c3
  rintro e w2 ⟨a, c, v, b, rfl, i2, ic, ip, v2, vo, t2, hbb, b2⟩
  obtain ⟨va, vc, rfl⟩ := tail_shape v2
  rw [List.length_map] at v2 vo ⊢
  rw [show batS (mostOf most) (l, bs) os = objS 3 (mostOf most) (l, bs) os from (objS_heap _ _ _).symm] at i2 ic ip v2 vo ⊢
  have HE := Lib.hid (fun W3 (hw : Wrote (fun x => x = w.heap.size ∨ x = w.heap.size + 1) w2 W3) => RODo.mk (most := most) H0.out.2.2 (by have := H0.out.2.1.lt; omega) b2 (fun g hg => HV.out.lt hg) (fun hp y hy => HI.out.lt (by rw [← HI.out.1]; exact hp) y hy) i2 ic (fun y hy hp => by
    obtain ⟨_, h⟩ := ip y hy hp
    exact h) v2 vo t2 hbb hw)
  rw [HN.out] at HE ⊢
  generalize (objS 3 (mostOf most) (l, bs) os).1.length = L at *
  generalize (objS 3 (mostOf most) (l, bs) os).2.length = L2 at *
  have s0 := H0.out.1.keep b2
  have s1 := H0.out.2.1.keep b2
  have x2 := s0.c2
  have xf := s0.f
  have t0 := s0.set2 (.slice a L c)
  have y3 := t0.c3
  have yf := t0.f 3
  have u0 := t0.set3 (.slice va L2 vc)
  have u1 := (s1.other (p := w.heap.size) (by omega) 2 (.slice a L c)).other (p := w.heap.size) (by omega) 3 (.slice va L2 vc)
  have z1 := u1.all (k' := 3) (m' := most) (.slice a L c) (.slice va L2 vc)
  have a0 := u0.c0
  have a1 := u0.c1
  have a2 := u0.c2
  have a3 := u0.c3
  have b0 := u1.c0
  have b1 := u1.c1
  have b2' := u1.c2
  have b3 := u1.c3
  have bf := u1.f
  have d0 := z1.c0
  have d1 := z1.c1
  have d2 := z1.c2
  have d3 := z1.c3
  have HQ := Lib.hid (HE.out _ ((((wrote1 w2 w.heap.size 2 (.slice a L c)).into (fun x h => .inl h)).trans ((wrote1 _ w.heap.size 3 (.slice va L2 vc)).into (fun x h => .inl h))).trans ((wrote4 _ (w.heap.size + 1) (.int .u8 3) (.int .i64 most) (.slice a L c) (.slice va L2 vc)).into (fun x h => .inr h))))
  clear s0 s1 t0 u0 u1 z1 i2 ic ip v2 vo t2 hbb b2 H0 HE
  go_wp2
  exact bodyPost_ret (v := .tuple #[.agg #[.int .u8 3, .int .i64 most, .slice a L c, .slice va L2 vc], .slice (some ⟨b, 0, none⟩) n n]) (by simp [results, Tryz.results27, go_sem, d0, d1, d2, d3]) rfl HQ.out

/-- Items of one's own that are not high. -/
def FlatOwn (w : World) (zs : List Int) (j : Nat) (v : Value) (W : World) : Prop := W.ownsRow w.heap.size 87 2 v j (flatI (flat0 (zs.take j))) ∧ Below w.heap.size w W
theorem flat0_length (zs : List Int) : (flat0 zs).length = zs.length := by simp [flat0]
theorem flat0_step {zs : List Int} {j : Nat} (h : j < zs.length) : flatI (flat0 (zs.take (j + 1))) = flatI (flat0 (zs.take j)) ++ [.int .i32 (zs.getD j 0), .int .i64 0] := by
  rw [List.take_succ_eq_append_getElem h]
  unfold flat0
  rw [List.map_append, flatI_append]
  simp [flatI, List.getD, h]
theorem FlatOwn.next {w wr w1 : World} {zs : List Int} {j : Nat} {v v' : Value} {o : Obj} (h : FlatOwn w zs j v wr) (hj : j < zs.length) (q : w1.ownsRow w.heap.size 87 2 v' (j + 1) (flatI (flat0 (zs.take j)) ++ [.int .i32 (zs.getD j 0), .int .i64 0])) (g : (wr.alloc o).grownBy w1 v.ownBlock) : FlatOwn w zs (j + 1) v' w1 :=
  ⟨by rw [flat0_step hj]; exact q, (h.2.alloc h.2.size o).grown g (Nat.le_trans h.2.size (by simp)) (fun k e => (h.1.lt k e).1)⟩
theorem item_new (w : World) (x : Int) : ∀ j u, ([.int .i32 x, .int .i64 0] : List Value)[j]? = some u → (w.alloc (.cells #[.int .i32 x, .int .i64 0] 87)).cell? ((⟨w.heap.size, 0, none⟩ : Addr).add j) = some u := by
  intro j u hu
  rcases j with _ | _ | j <;> simp at hu <;> subst hu <;> simp [Addr.add]
theorem item_one (x : Int) : ∀ u ∈ ([.int .i32 x, .int .i64 0] : List Value), u.oneCell' = true := by
  intro u hu
  simp at hu
  rcases hu with rfl | rfl <;> rfl

set_option maxRecDepth 100000 in
set_option maxHeartbeats 16000000 in
theorem refODoOther (w : World) (k most : Int) (ai : Option Addr) (ni ci : Nat) (bv : Value) (s : List It × List Bool) (ao : Option Addr) (n cap : Nat) (os : List (Int × Int)) (hk : ¬ k = 3) (hi : ItemsAt w ai ni s.1) (hni : ni ≤ 1000) (hv : Tail w bv (s.2.map Value.bool)) (ho : OpsAt w ao n os) (hok : ∀ o ∈ os, OpOk o) (hn : n ≤ 1000) (hlm : (s.1.length : Int) ≤ mostOf most) :
    Calls Tryz.prog 27 #[.agg #[.int .u8 k, .int .i64 most, .slice ai ni ci, bv], .slice ao n cap] w (RODo w ai bv.ownBlock k most (mostOf most) s os) := by
  obtain ⟨i0, hii, hz0, hz1, hz2⟩ := info_parts infoItem
  obtain ⟨l, bs⟩ := s
  obtain ⟨ba, bc, rfl⟩ := tail_shape hv
  rw [List.length_map] at hv ⊢
  have HI := Lib.hid hi
  have HV := Lib.hid hv
  have HO := Lib.hid ho
  have HN := Lib.hid ho.1
  have HOK := Lib.hid hok
  have HK := Lib.hid hk
  have HMO := Lib.hid (mostOf_in most)
  have HLM := Lib.hid hlm
  have hk3 : (k == (3 : Int)) = false := beq_eq_false_iff_ne.2 hk
  clear hi hv ho hok hlm
  go_enter Tryz.func27, Tryz.ntmps27
  go_upto_region 1 with (fail)
  generalize hW : (w.alloc (.cells #[.int .u8 k, .int .i64 most, .slice ai ni ci, .slice ba bs.length bc] 58)).alloc (.cells #[.int .u8 0, .int .i64 0, .slice none 0 0, .slice none 0 0] 58) = W
  obtain ⟨r0, r1, hb⟩ := robs w k most (.slice ai ni ci) (.slice ba bs.length bc) W hW
  have c0 := r0.c0
  have c1 := r0.c1
  have c2 := r0.c2
  have H0 := Lib.hid (And.intro r0 (And.intro r1 hb))
  have HRB := Lib.hid (fun V (hV : Below W.heap.size W V) => And.intro ((H0.out.1.keep hV).c0) (And.intro (H0.out.1.keep hV).c1 (H0.out.1.keep hV).c2))
  have C1 := Lib.hid (refVals W.drew ai ni ci l (HI.out.keep (hb.drew)) hni)
  have HBD := Lib.hid (show Below W.heap.size W W.drew from (Below.refl _ _).drew)
  have HVL := Lib.hid (show (vals l).length ≤ 1000 by rw [vals_length]; have h : l.length = ni := HI.out.1; omega)
  clear hW r0 r1 hb
  go_wp2
  go_region_held3 (fun w' => w'.cell? ⟨w.heap.size, 0, none⟩ = some (.int .u8 k) ∧ w'.cell? ⟨w.heap.size, 1, none⟩ = some (.int .i64 most) ∧ w'.cell? ⟨w.heap.size, 2, none⟩ = some (.slice ai ni ci)) (first | exact ⟨c0, c1, c2⟩ | exact ⟨x0, x1, x2⟩ | exact ⟨y0, y1, y2⟩) (first
    | ((with_reducible refine C2.out.mono ?_); rintro e w4 ⟨a4, c4, b4, rfl, r4, t4, bl4, l4, n4, na4⟩; have HB4 := Lib.hid (HB3.out.trans (bl4.mono HB3.out.size)); obtain ⟨y0, y1, y2⟩ := HRB.out w4 HB4.out; have HR4 := Lib.hid (And.intro r4 (And.intro t4 (show W.heap.size ≤ b4 from Nat.le_trans HB3.out.size n4))); clear r4 t4 bl4 l4 n4 na4)
    | ((with_reducible refine C1.out.mono ?_); rintro e w3 ⟨a3, c3, rfl, r3, l3, _, b3⟩; have HB3 := Lib.hid (show Below W.heap.size W w3 from HBD.out.trans (b3.mono HBD.out.size)); obtain ⟨x0, x1, x2⟩ := HRB.out w3 HB3.out; have C2 := Lib.hid (refBatchN w3 k most a3 ao (vals l).length c3 n cap (vals l) os r3 l3 (HO.out.keep (H0.out.2.2.trans (HB3.out.mono H0.out.2.2.size))) HOK.out HVL.out hn); clear r3 l3 b3))
  clear x0 x1 x2 C1 C2 c0 c1 c2 y0 y1 y2
  obtain ⟨Z, hZ⟩ : ∃ Z, batZ k (mostOf most) (vals l) os = Z := ⟨_, rfl⟩
  have HOS := Lib.hid (show objS k (mostOf most) (l, bs) os = (flat0 Z, bs) from by rw [← hZ]; exact objS_other HK.out)
  obtain ⟨L, hL⟩ : ∃ L, Z.length = L := ⟨_, rfl⟩
  have HZL := Lib.hid hL
  have hl1000 : L ≤ 1000 := by
    have h1 := batZ_room (k := k) (m := mostOf most) (os := os) (zs := vals l) (by rw [vals_length]; exact HLM.out)
    have h2 := HMO.out.2
    rw [hZ, hL] at h1
    omega
  rw [hZ, hL] at HR4 ⊢
  clear hZ hL
  have HS := Lib.hid (show FlatOwn w4 Z 0 (.slice none 0 0) w4 from ⟨by simpa [flat0, flatI] using World.ownsRow_nil w4 w4.heap.size 87 2, Below.refl _ _⟩)
  go_wp2_with fail
  go_loopw [11, 12] (fun v i wr => ∃ j : Nat, j ≤ L ∧ i = .int .i64 j ∧ FlatOwn w4 Z j v wr) (fun _ i _ => L - (intOf i).toNat)
  case atStart => exact ⟨0, Nat.zero_le _, rfl, HS.out⟩
  case round =>
    obtain ⟨j, hj, rfl, hF⟩ := hrel
    clear HS
    have HF := Lib.hid hF
    clear hF
    by_cases hlt : j < L
    · obtain ⟨zb, zo, rfl, zl, zc⟩ := HR4.out.1.2 (by omega)
      have p0 := (HF.out.2.cell (p := ⟨zb, zo + j, none⟩) zl).trans (zc j hlt)
      have i1 : (j : Int) < L := by omega
      have HFO := Lib.hid (fun o => HF.out.1.alloc o)
      have HFS := Lib.hid HF.out.2.size
      have HNX := Lib.hid (fun (v' : Value) (w1 : World) (o : Obj) q g => FlatOwn.next (v' := v') (w1 := w1) (o := o) HF.out (by rw [HZL.out]; exact hlt) q g)
      clear zc
      generalize Z.getD j 0 = y at *
      go_wp2_with (at_builtin; refine wpList_append_own _ rfl (.tmp 52) (.tmp 58) 55 rfl w4.heap.size 87 i0 _ 2 16 Tryz.underlying55 hii hz0 hz1 hz2 rfl (by decide) _ j _ rfl (HFO.out _) ⟨wr.heap.size, 0, none⟩ 1 1 [.int .i32 y, .int .i64 0] rfl rfl (item_new _ _) (item_one _) (by simp only [maxLen]; omega) (by omega) (Nat.le_trans HFS.out (by simp)) ?_; intro v' w5 q5 g5 _; have H5 := Lib.hid (HNX.out _ _ _ q5 g5); clear q5 g5)
      go_roundw
      case rel => exact ⟨j + 1, by omega, by go_num, H5.out⟩
      case measure => simp [intOf]; omega
    · obtain rfl : j = L := by omega
      clear hlt
      have hrow := HF.out.1
      rw [show Z.take j = Z from List.take_of_length_le (by rw [HZL.out]; exact Nat.le_refl _)] at hrow
      obtain ⟨a, c, hva, i2, ic, hna⟩ := ItemsAt.own hrow
      subst hva
      have HBW := Lib.hid (show Below W.heap.size W wr from HB4.out.trans (HF.out.2.mono HB4.out.size))
      have s0 := H0.out.1.keep HBW.out
      have s1 := H0.out.2.1.keep HBW.out
      have HE := Lib.hid (fun W3 (hw : Wrote (fun x => x = w.heap.size ∨ x = w.heap.size + 1) wr W3) => RODo.mk (k := k) (most := most) (m := mostOf most) (s := (l, bs)) (os := os) (ai := ai) (vb := (Value.slice ba bs.length bc).ownBlock) (a := a) (c := c) (b := b4) (v := .slice ba bs.length bc) H0.out.2.2 (by have := H0.out.2.1.lt; omega) HBW.out (fun g hg => HV.out.lt hg) (fun hp y hy => HI.out.lt (by rw [← HI.out.1]; exact hp) y hy)
        (by rw [HOS.out]; simp only [flat0_length, HZL.out]; exact i2) (by rw [HOS.out]; simp only [flat0_length, HZL.out]; exact ic) (fun y hy _ => .inl (Nat.le_trans HB4.out.size (hna y hy))) (by rw [HOS.out]; exact tail_below HV.out (H0.out.2.2.trans (HBW.out.mono H0.out.2.2.size))) rfl (HR4.out.2.1.below HF.out.2) HR4.out.2.2 hw)
      rw [HOS.out] at HE
      simp only [flat0_length, HZL.out, HN.out] at HE
      rw [HN.out]
      have x2 := s0.c2
      have xf := s0.f
      have u0 := s0.set2 (.slice a j c)
      have u1 := s1.other (p := w.heap.size) (by omega) 2 (.slice a j c)
      have z1 := u1.all (k' := k) (m' := most) (.slice a j c) (.slice ba bs.length bc)
      have a0 := u0.c0
      have a1 := u0.c1
      have a2 := u0.c2
      have a3 := u0.c3
      have b0 := u1.c0
      have b1 := u1.c1
      have b2' := u1.c2
      have b3 := u1.c3
      have bf := u1.f
      have d0 := z1.c0
      have d1 := z1.c1
      have d2 := z1.c2
      have d3 := z1.c3
      have HQ := Lib.hid (HE.out _ (((wrote1 wr w.heap.size 2 (.slice a j c)).into (fun x h => .inl h)).trans ((wrote4 _ (w.heap.size + 1) (.int .u8 k) (.int .i64 most) (.slice a j c) (.slice ba bs.length bc)).into (fun x h => .inr h))))
      clear s0 s1 u0 u1 z1 i2 ic hna hrow HE
      go_wp2
      exact bodyPost_ret (v := .tuple #[.agg #[.int .u8 k, .int .i64 most, .slice a j c, .slice ba bs.length bc], .slice (some ⟨b4, 0, none⟩) n n]) (by simp [results, Tryz.results27, go_sem, d0, d1, d2, d3]) rfl HQ.out

end Go.Proofs.YtniefplgijpckaaGreat
