/-
  What close and through of package match do, whoever is told what becomes of operations. Conditions: a line as St says; what is told as Hooks says; operations that lie in memory.
-/
import Derived.Test.YtephmkekgmpnpaaThru9
namespace Go.Proofs.Ytephmkekgmpnpaa
open Go.RowKit

/-- The four in a block of their own. -/
def TBox (w : World) (b : Nat) (f1 f2 f3 f4 : Nat) (l1 l2 l3 l4 : Array Value) : Prop := w.heap[b]? = some (.cells #[.func (.func f1) #[] l1, .func (.func f2) #[] l2, .func (.func f3) #[] l3, .func (.func f4) #[] l4] 67 (0, 0))
section
variable {w w' : World} {b f1 f2 f3 f4 : Nat} {l1 l2 l3 l4 : Array Value}
theorem TBox.new (w : World) (f1 f2 f3 f4 : Nat) (l1 l2 l3 l4 : Array Value) : ∀ W, w.alloc (.cells #[.func (.func f1) #[] l1, .func (.func f2) #[] l2, .func (.func f3) #[] l3, .func (.func f4) #[] l4] 67) = W → TBox W w.heap.size f1 f2 f3 f4 l1 l2 l3 l4 ∧ Below w.heap.size w W ∧ W.heap.size = w.heap.size + 1 := by
  rintro W rfl
  exact ⟨heap_alloc_new w _, (Below.refl _ _).alloc (Nat.le_refl _) _, by simp⟩
theorem TBox.lt (h : TBox w b f1 f2 f3 f4 l1 l2 l3 l4) : b < w.heap.size := lt_of_block h
theorem TBox.keep (h : TBox w b f1 f2 f3 f4 l1 l2 l3 l4) (hb : w'.heap[b]? = w.heap[b]?) : TBox w' b f1 f2 f3 f4 l1 l2 l3 l4 := hb.trans h
theorem TBox.cells (h : TBox w b f1 f2 f3 f4 l1 l2 l3 l4) : w.cell? ⟨b, 0, none⟩ = some (.func (.func f1) #[] l1) ∧ w.cell? ⟨b, 1, none⟩ = some (.func (.func f2) #[] l2) ∧ w.cell? ⟨b, 2, none⟩ = some (.func (.func f3) #[] l3) ∧ w.cell? ⟨b, 3, none⟩ = some (.func (.func f4) #[] l4) := by
  unfold TBox at h
  refine ⟨?_, ?_, ?_, ?_⟩ <;> simp [World.cell?, h]
end
/-- An operation in a block of its own. -/
def OBx (w : World) (b : Nat) (k x : Int) : Prop := w.heap[b]? = some (.cells #[.int .u8 k, .int .i32 x] 43 (0, 0))
theorem OBx.c0 {w : World} {b : Nat} {k x : Int} (h : OBx w b k x) : w.cell? ⟨b, 0, none⟩ = some (.int .u8 k) := by unfold OBx at h; simp [World.cell?, h]

section
variable {B n : Nat} {most there : Int} {ks : Nat → Int} {f1 f2 f3 f4 : Nat} {l1 l2 l3 l4 : Array Value} {P : Nat → Addr} {I M K : Nat → (Nat → Prop) → World → Prop} {w0 w : World} {G0 : Nat → Prop} {p : Nat}

set_option maxHeartbeats 3200000 in
theorem lclose (H : Hooks B n most there ks f1 f2 f3 f4 l1 l2 l3 l4 P I M K) (u : FrameMode) (h : St B w0 G0 p most (lineAt most there ks n) (K 0) w) :
    CallsD Try.prog 44 #[.pointer (some ⟨p, 0, none⟩), .func (.func f4) #[] l4] u w fun e u' w' => u' = u ∧ (e = .returned (.tuple #[]) ∧ St B w0 G0 p most (lineAt most there ks n) (K (lineAt most there ks n).2.length) w') := by
  obtain ⟨t, ps, hs⟩ : ∃ t ps, lineAt most there ks n = (t, ps) := ⟨_, _, rfl⟩
  have HO := Lib.hid (lineAt_ok H.low H.high ks n)
  have hl : ps.length ≤ 1000 := by have := HO.out.room; have := HO.out.low; have := H.top; rw [hs] at *; simp at *; omega
  rw [hs] at h ⊢
  have HS := Lib.hid (show (lineAt most there ks n).2 = ps by rw [hs])
  have HH := Lib.hid H
  obtain ⟨v, h⟩ := h
  have c2 := h.line.c2
  obtain ⟨ao, cap, rfl⟩ := ownShape h.line.own
  simp only at c2
  have HT := Lib.hid h
  clear hs h H HO
  obtain ⟨m, hm⟩ : ∃ m, ps.length = m := ⟨_, rfl⟩
  simp only [hm] at c2 HT hl ⊢
  have HM := Lib.hid hm
  clear hm
  go_enter_d Try.func44, Try.ntmps44
  go_wp2
  clear c2
  go_loopw [11] (fun i wr => ∃ j : Nat, j ≤ m ∧ i = .int .i64 j ∧ Hid (StV B w0 G0 p (.slice ao m cap) most (t, ps) (K j) wr)) (fun i _ => m - (intOf i).toNat)
  case atStart => exact ⟨0, Nat.zero_le _, rfl, HT⟩
  case round =>
    obtain ⟨j, hj, rfl, hst⟩ := hrel
    clear HT
    by_cases hlt : j < m
    · have ho := hst.out.line.own
      simp only [HM.out] at ho
      rcases ho.2 with ⟨_, e⟩ | ⟨g, cap', cur, ec, _⟩
      · omega
      · simp only [Value.slice.injEq] at ec
        obtain ⟨rfl, _, rfl⟩ := ec
        have c := ho.cellAt j (by omega)
        have hjl : j < ps.length := by rw [HM.out]; exact hlt
        have hx : (ps.map (Value.int .i64))[j]? = some (.int .i64 (ps.getD j 0)) := by simp [List.getD, hjl]
        rw [hx] at c
        have HX := Lib.hid (show (lineAt most there ks n).2[j]? = some (ps.getD j 0) by rw [HS.out]; simp [List.getD, hjl])
        clear hx hjl ho
        generalize ps.getD j 0 = x at *
        have C := hst.out.call (Q' := K (j + 1)) (fun G hK => HH.out.stay j G wr x hK HX.out)
        have hE := HH.out.e4
        unfold Enters at hE
        have i1 : (j : Int) < (m : Int) := by omega
        clear hst
        go_wp2_with fail
        refine C.mono ?_
        clear C hE c
        rintro e w3 ⟨rfl, h3⟩
        have HT3 := Lib.hid h3
        clear h3
        go_wp2
        go_roundw
        case rel => exact ⟨j + 1, by omega, by go_num, HT3⟩
        case measure => simp [intOf]; omega
    · obtain rfl : j = m := by omega
      go_wp2
      go_end0
      exact ⟨rfl, _, hst.out⟩

theorem St.cell {s : Int × List Int} {k : Nat} (H : Hooks B n most there ks f1 f2 f3 f4 l1 l2 l3 l4 P I M K) (st : St B w0 G0 p most s (M k) w) (hk : k < n) : (∃ x, w.cell? (P k) = some (.int .u8 x)) ∧ w.frozen? (P k) = false := by
  obtain ⟨v, L, G, _, _, _, _, h5, _⟩ := st
  obtain ⟨h1, h2, _⟩ := H.cell k G w h5 hk
  exact ⟨h1, h2⟩
theorem St.other {s : Int × List Int} {k : Nat} (H : Hooks B n most there ks f1 f2 f3 f4 l1 l2 l3 l4 P I M K) (st : St B w0 G0 p most s (M k) w) (hk : k < n) {b : Nat} (hb : b < w0.heap.size) (hn : ¬ G0 b) : b ≠ (P k).block := by
  obtain ⟨v, L, G, _, _, _, _, h5, _, _, h8, _⟩ := st
  rintro rfl
  rcases h8 _ (H.cell k G w h5 hk).2.2 with h | h
  · exact hn h
  · omega
theorem St.told {s : Int × List Int} {k : Nat} (H : Hooks B n most there ks f1 f2 f3 f4 l1 l2 l3 l4 P I M K) (st : St B w0 G0 p most s (M k) w) (hk : k < n) : St B w0 G0 p most s (I (k + 1)) (w.setCell (P k) (.int .u8 (lineC most (lineAt most there ks k) (ks k)))) :=
  st.put (H.footI (k + 1)) (fun G h => ⟨(H.cell k G w h hk).2.2, H.store k G w h hk⟩)
theorem st_imp {s : Int × List Int} {Q Q' : (Nat → Prop) → World → Prop} (st : St B w0 G0 p most s Q w) (hi : ∀ G W, Q G W → Q' G W) : St B w0 G0 p most s Q' w := by
  obtain ⟨v, st⟩ := st
  exact ⟨v, st.imp (fun G h => hi G w h)⟩
theorem stStart {W V : World} (hB : B ≤ W.heap.size) {Q : (Nat → Prop) → World → Prop} {t : Int} (keep : ∀ G L W W', Q G W → Wrote L W W' → Apart G L → (∀ g, L g → B ≤ g) → Q G W') (hF : ∀ g, G0 g → g < W.heap.size) (hQ : Q G0 W) (hV : W.alloc (.cells #[.int .i64 most, .int .i64 t, .slice none 0 0] 75) = V) :
    StV B W G0 W.heap.size (.slice none 0 0) most (t, []) Q V := by
  have hb : Below W.heap.size W V := by rw [← hV]; exact (Below.refl _ _).alloc (Nat.le_refl _) _
  have hz : V.heap.size = W.heap.size + 1 := by rw [← hV]; simp
  refine ⟨New W V, G0, ⟨by rw [← hV]; exact heap_alloc_new W _, World.ownsRow_nil _ _ _ _⟩, ⟨Nat.le_refl _, by omega⟩, by simp [Value.ownBlock], fun g hg => hg.2, keep G0 _ _ _ hQ (Wrote.of hb (fun _ => False)) (fun _ _ h => h) (fun _ h => h.elim), fun g h1 h2 => ?_, Wrote.of hb G0, Later.refl _ _, fun g hg => .inr hg.1, fun g hg => Nat.le_trans hB hg.1, Nat.le_trans hB hb.size⟩
  have := hF g h2
  have := h1.1
  omega

set_option maxRecDepth 100000 in
set_option maxHeartbeats 8000000 in
theorem throughAny (H : Hooks B n most there ks f1 f2 f3 f4 l1 l2 l3 l4 P I M K) (ao : Option Addr) (cap : Nat) (os : List (Int × Int)) (ho : OpsAt w ao n os) (hoff : 0 < n → Off G0 ao) (hks : ∀ i, i < n → ks i = (os.getD i (0, 0)).1) (hn : n ≤ 1000000) (hB : B ≤ w.heap.size) (h : I 0 G0 w) :
    Calls Try.prog 29 #[.int .i64 there, .int .i64 most, .slice ao n cap, tellsV f1 f2 f3 f4 l1 l2 l3 l4] w (Hooked (K (lineAt most there ks n).2.length) G0 w) := by
  have HF := Lib.hid (H.footI 0 G0 w h)
  obtain ⟨W, hW⟩ : ∃ W, w.alloc (.cells #[.func (.func f1) #[] l1, .func (.func f2) #[] l2, .func (.func f3) #[] l3, .func (.func f4) #[] l4] 67) = W := ⟨_, rfl⟩
  obtain ⟨tb, hb, hz⟩ := TBox.new w f1 f2 f3 f4 l1 l2 l3 l4 W hW
  have HW := Lib.hid hW
  have HO := Lib.hid (ho.keep hb)
  have hI := H.keepI 0 G0 _ _ _ h (Wrote.of hb (fun _ => False)) (fun _ _ h => h) (fun _ h => h.elim)
  have HI := Lib.hid hI
  have HH := Lib.hid H
  have HB := Lib.hid hb
  have HZ := Lib.hid hz
  have HOF := Lib.hid hoff
  have HKS := Lib.hid hks
  have HTB := Lib.hid tb
  have HL := Lib.hid ho.1
  clear hW ho h H hb hz hoff hks tb hI
  unfold tellsV
  go_enter_defers Try.func29, Try.ntmps29
  go_upto_region 1 with (fail)
  rw [HW.out]
  go_upto_region 2 with (fail)
  generalize hV : W.alloc (.cells #[.int .i64 most, .int .i64 there, .slice none 0 0] 75) = V
  have hbV : Below W.heap.size W V := by rw [← hV]; exact (Below.refl _ _).alloc (Nat.le_refl _) _
  have HS := Lib.hid (stStart (Nat.le_trans hB HB.out.size) (HH.out.keepI 0) (fun g hg => Nat.lt_of_lt_of_le (HF.out g hg) HB.out.size) HI.out hV)
  have HTV := Lib.hid (HTB.out.keep (hbV.block _ HTB.out.lt))
  have b4 := HTV.out.cells.2.2.2
  clear hV hbV
  go_wp2
  clear b4
  go_loopw [18] (fun i wr => ∃ k : Nat, k ≤ n ∧ i = .int .i64 k ∧ Hid (St B W G0 W.heap.size most (lineAt most there ks k) (I k) wr)) (fun i _ => n - (intOf i).toNat)
  case atStart => exact ⟨0, Nat.zero_le _, rfl, Lib.hid ⟨_, HS.out⟩⟩
  case round =>
    obtain ⟨k, hk, rfl, hst⟩ := hrel
    clear HS HTV
    by_cases hlt : k < n
    · obtain ⟨v, hv⟩ := hst.out
      have hwr := hv.wrote
      obtain ⟨U, hU1, hU2, hU3, hU4⟩ := hv.rebase (HH.out.keepI k) (HH.out.footI k)
      obtain ⟨ob, off, rfl, bl, hc⟩ := (HO.out.off (HOF.out (by omega)) hwr).2 (by omega)
      obtain ⟨c0, c1⟩ := hc k hlt
      have HKK := Lib.hid (HKS.out k hlt)
      have i1 : (k : Int) < (n : Int) := by omega
      have HT0 := Lib.hid (HTB.out.keep (hwr.block _ HTB.out.lt (fun e => by have := HF.out _ e; omega)))
      have HU1 := Lib.hid hU1
      have HU2 := Lib.hid hU2
      have HU3 := Lib.hid hU3
      have HU4 := Lib.hid hU4
      clear hc hv hwr hU1 hU2 hU3 hU4 hst
      generalize (os.getD k (0, 0)).1 = kd at *
      generalize (os.getD k (0, 0)).2 = kx at *
      go_upto_region 6 with (fail)
      generalize hV2 : wr.alloc (.cells #[.int .u8 kd, .int .i32 kx] 43) = V2
      have hb2 : Below wr.heap.size wr V2 := by rw [← hV2]; exact (Below.refl _ _).alloc (Nat.le_refl _) _
      have ob2 : OBx V2 wr.heap.size kd kx := by rw [← hV2]; exact heap_alloc_new wr _
      have tb2 := HT0.out.keep (hb2.block _ HT0.out.lt)
      have hs2 := HU3.out V2.drew hb2.drew
      have C1 := hs2.ask (fun G hI => HH.out.code k G _ hI hlt)
      have C2 := ldoAny HH.out hlt HKK.out ⟨v, hs2⟩
      unfold tellsV at C2
      have HB2 := Lib.hid hb2.drew
      have nU1 : ¬ U wr.heap.size := fun e => by have := HU1.out _ e; omega
      have nU2 : ¬ U w.heap.size := fun e => by
        rcases HU2.out _ e with h | h
        · have := HF.out _ h; omega
        · have := HZ.out; omega
      have HX := Lib.hid (fun w6 s' Q' (st : St B V2.drew U W.heap.size most s' Q' w6) => (show TBox w6 w.heap.size f1 f2 f3 f4 l1 l2 l3 l4 ∧ OBx w6 wr.heap.size kd kx from by
        obtain ⟨v6, st⟩ := st
        have hw := st.wrote
        exact ⟨tb2.keep (hw.block _ tb2.lt nU2), (hw.block _ (lt_of_block ob2) nU1).trans ob2⟩))
      obtain ⟨g0, g1, g2, g3⟩ := tb2.cells
      have g4 := ob2.c0
      have hE := HH.out.e1
      unfold Enters at hE
      have HN := Lib.hid (show (w.heap.size < V2.drew.heap.size ∧ ¬ U w.heap.size ∧ wr.heap.size < V2.drew.heap.size ∧ ¬ U wr.heap.size) from ⟨tb2.lt, nU2, lt_of_block ob2, nU1⟩)
      clear hs2 hb2 hV2 c0 c1 tb2 ob2 nU1 nU2
      go_region_held3 (fun w' => w'.cell? ⟨w.heap.size, 0, none⟩ = some (.func (.func f1) #[] l1) ∧ w'.cell? ⟨w.heap.size, 1, none⟩ = some (.func (.func f2) #[] l2) ∧ w'.cell? ⟨w.heap.size, 2, none⟩ = some (.func (.func f3) #[] l3) ∧ w'.cell? ⟨w.heap.size, 3, none⟩ = some (.func (.func f4) #[] l4) ∧ w'.cell? ⟨wr.heap.size, 0, none⟩ = some (.int .u8 kd)) (first | exact ⟨g0, g1, g2, g3, g4⟩ | exact ⟨h0, h1, h2, h3, h4⟩ | exact ⟨cellOther _ n1 h0, cellOther _ n1 h1, cellOther _ n1 h2, cellOther _ n1 h3, cellOther _ n2 h4⟩) (first
        | ((with_reducible refine C1.mono ?_); rintro e w5 ⟨rfl, rfl⟩)
        | ((with_reducible refine C2.mono ?_); rintro e w6 ⟨rfl, st6⟩; obtain ⟨⟨h0, h1, h2, h3⟩, hob⟩ := (show _ ∧ _ from ⟨(HX.out w6 _ _ st6).1.cells, (HX.out w6 _ _ st6).2⟩); have h4 := hob.c0; obtain ⟨⟨x6, cx⟩, fx⟩ := st6.cell HH.out hlt; have n1 := st6.other HH.out hlt HN.out.1 HN.out.2.1; have n2 := st6.other HH.out hlt HN.out.2.2.1 HN.out.2.2.2; have H6 := Lib.hid st6; clear hob st6))
      all_goals
        go_wp2
        go_roundw
        case rel =>
          have := (HU4.out _ _ _ _ HB2.out H6.out).told HH.out hlt
          rw [HKK.out] at this
          exact ⟨k + 1, by omega, by go_num, Lib.hid this⟩
        case measure => simp [intOf]; omega
    · obtain rfl : k = n := by omega
      have HS := hst
      clear hst
      go_wp2
      have hcl := lclose HH.out .returning (st_imp HS.out HH.out.turn)
      refine leaves_cons (f := 44) (args := #[.pointer (some ⟨W.heap.size, 0, none⟩), .func (.func f4) #[] l4]) (by simp) (by simp [go_sem]) ?_
      refine hcl.mono ?_
      rintro e u' w'' ⟨rfl, rfl, st⟩
      refine ⟨.tuple #[], by simp [results, Try.results29, go_sem], rfl, ?_⟩
      obtain ⟨v, L, G, _, _, _, _, h5, _, h7, h8, _⟩ := st
      exact ⟨G, h5, (Wrote.of HB.out G0).trans h7, (Later.refl G0 w).trans h8 HB.out.size⟩
end

end Go.Proofs.Ytephmkekgmpnpaa
