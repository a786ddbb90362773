/-
  What put of a place of package skip does: a tower is linked in on each level that it is on. Conditions: a list as Bod says, a place behind its first part, a new tower.
-/
import Derived.Test.YtjcdbdhdmalfaaaPast
namespace Go.Proofs.Ytjcdbdhdmalfaaa
open Go.RowKit

def InF (p : Nat) (ns : List Nd) : Nat → Prop := fun b => b ∈ p :: blks ns

theorem nxv_ptr (L : List Nat) : ∃ o, nxv L = .pointer o := by
  cases L with
  | nil => exact ⟨_, rfl⟩
  | cons c cs => exact ⟨_, rfl⟩

/-- What holds between two levels. -/
structure LinkRel (w : World) (p : Nat) (many most : Int) (A : List Nd) (t : Nd) (B : List Nd) (k : Nat) (W : World) : Prop where
  ln : Lnk W p many most A t B k
  pb : PBox W w.heap.size (pos p A)
  rb : RBox0 W (w.heap.size + 1)
  wr : Wrote (InF p (A ++ t :: B)) w W

section
variable {w W W' : World} {p : Nat} {many most : Int} {A B : List Nd} {t : Nd} {k : Nat}

theorem posIn (p : Nat) (A B : List Nd) (t : Nd) (k : Nat) : pos p A k ∈ p :: blks (A ++ t :: B) := by
  rcases List.mem_cons.1 (pos_mem p A k) with e | e
  · rw [e]; simp
  · refine List.mem_cons_of_mem _ ?_
    rw [blks_append]
    exact List.mem_append_left _ (lv_blks e)

theorem Lnk.lt (h : Lnk W p many most A t B k) : ∀ g, InF p (A ++ t :: B) g → g < W.heap.size := fun g hg => by
  rcases List.mem_cons.1 hg with e | e
  · rw [e]; exact h.hd.lt
  · obtain ⟨n, hn, rfl⟩ := List.mem_map.1 e
    exact (h.tow n hn).lt

theorem Lnk.posF (h : Lnk W p many most A t B k) (i j : Nat) : W.frozen? ⟨pos p A i, j, none⟩ = false := by
  rcases List.mem_cons.1 (pos_mem p A i) with e | e
  · rw [e]; exact h.hd.f j
  · obtain ⟨n, hn, h1, _⟩ := lv_mem e
    rw [← h1]
    exact (h.tow n (by simp [hn])).f j

theorem Lnk.keep (h : Lnk W p many most A t B k) (hb : ∀ g, InF p (A ++ t :: B) g → W'.heap[g]? = W.heap[g]?) : Lnk W' p many most A t B k := by
  refine ⟨h.hd.keep (hb p (by simp [InF])), fun n hn => (h.tow n hn).keep (hb n.b (List.mem_cons_of_mem _ (List.mem_map_of_mem hn))), fun j hj => ?_⟩
  refine (h.ch j hj).keep fun b hb' => World.cell?_of_block (hb b ?_)
  rcases List.mem_cons.1 hb' with e | e
  · simp [InF, e]
  · refine List.mem_cons_of_mem _ ?_
    split at e
    · exact lv_blks e
    · have := lv_blks e
      simp only [blks, List.map_append, List.mem_append, List.map_cons, List.mem_cons] at this ⊢
      rcases this with h1 | h1
      · exact .inl h1
      · exact .inr (.inr h1)

/-- One level more is linked. -/
theorem LinkRel.round (h : LinkRel w p many most A t B k W) (hF : ∀ g, InF p (A ++ t :: B) g → g < w.heap.size) (hk : k < 8) (hkt : k < t.h) (hnd : (p :: blks (A ++ t :: B)).Nodup) :
    LinkRel w p many most A t B (k + 1) ((W.setCell ⟨t.b, 2 + k, none⟩ (nxv (lv B k))).setCell ⟨pos p A k, 2 + k, none⟩ (.pointer (some ⟨t.b, 0, none⟩))) := by
  have ht : InF p (A ++ t :: B) t.b := List.mem_cons_of_mem _ (by simp [blks])
  have hp : InF p (A ++ t :: B) (pos p A k) := posIn p A B t k
  have h1 := hF _ ht
  have h2 := hF _ hp
  refine ⟨h.ln.round hk hkt hnd, ?_, ?_, (h.wr.setCell (.inr ht) _).setCell (.inr hp) _⟩
  · exact (Below.heap_setCell _ _ _ _ (by show w.heap.size ≠ pos p A k; omega)).trans ((Below.heap_setCell _ _ _ _ (by show w.heap.size ≠ t.b; omega)).trans h.pb)
  · exact (Below.heap_setCell _ _ _ _ (by show w.heap.size + 1 ≠ pos p A k; omega)).trans ((Below.heap_setCell _ _ _ _ (by show w.heap.size + 1 ≠ t.b; omega)).trans h.rb)
end

theorem linkStart {w : World} {p : Nat} {many most : Int} {A B : List Nd} {t : Nd} (h : Bod w p many most (A ++ B)) (ht : Tow w t) :
    LinkRel w p many most A t B 0 ((w.alloc (.cells #[.pointer (some ⟨(pos p A) 0, 0, none⟩), .pointer (some ⟨(pos p A) 1, 0, none⟩), .pointer (some ⟨(pos p A) 2, 0, none⟩), .pointer (some ⟨(pos p A) 3, 0, none⟩), .pointer (some ⟨(pos p A) 4, 0, none⟩), .pointer (some ⟨(pos p A) 5, 0, none⟩), .pointer (some ⟨(pos p A) 6, 0, none⟩), .pointer (some ⟨(pos p A) 7, 0, none⟩)] 67)).alloc (.cells #[.pointer none, .pointer none, .pointer none, .pointer none, .pointer none, .pointer none, .pointer none, .pointer none] 67)) := by
  have b0 := PBox.new w (pos p A)
  have be1 : Below w.heap.size w (w.alloc (.cells #[.pointer (some ⟨(pos p A) 0, 0, none⟩), .pointer (some ⟨(pos p A) 1, 0, none⟩), .pointer (some ⟨(pos p A) 2, 0, none⟩), .pointer (some ⟨(pos p A) 3, 0, none⟩), .pointer (some ⟨(pos p A) 4, 0, none⟩), .pointer (some ⟨(pos p A) 5, 0, none⟩), .pointer (some ⟨(pos p A) 6, 0, none⟩), .pointer (some ⟨(pos p A) 7, 0, none⟩)] 67)) := (Below.refl _ w).alloc (Nat.le_refl _) _
  generalize hw1 : w.alloc (.cells #[.pointer (some ⟨(pos p A) 0, 0, none⟩), .pointer (some ⟨(pos p A) 1, 0, none⟩), .pointer (some ⟨(pos p A) 2, 0, none⟩), .pointer (some ⟨(pos p A) 3, 0, none⟩), .pointer (some ⟨(pos p A) 4, 0, none⟩), .pointer (some ⟨(pos p A) 5, 0, none⟩), .pointer (some ⟨(pos p A) 6, 0, none⟩), .pointer (some ⟨(pos p A) 7, 0, none⟩)] 67) = w1 at *
  have s1 : w1.heap.size = w.heap.size + 1 := by rw [← hw1]; simp
  have r0 : RBox0 (w1.alloc (.cells #[.pointer none, .pointer none, .pointer none, .pointer none, .pointer none, .pointer none, .pointer none, .pointer none] 67)) (w.heap.size + 1) := by
    rw [← s1]; exact heap_alloc_new w1 _
  have be2 : Below w1.heap.size w1 (w1.alloc (.cells #[.pointer none, .pointer none, .pointer none, .pointer none, .pointer none, .pointer none, .pointer none, .pointer none] 67)) := (Below.refl _ w1).alloc (Nat.le_refl _) _
  have be := be1.trans (be2.mono (by omega))
  exact ⟨Lnk.start (h.below be) (ht.keep (be.block _ ht.lt)), b0.below be2, r0, Wrote.of be _⟩

/-- What put of a place leaves. -/
def Linked (w : World) (p : Nat) (many most : Int) (ns : List Nd) (w' : World) : Prop := Bod w' p many most ns ∧ Wrote (InF p ns) w w'

theorem linkEnd {w W w3 : World} {p : Nat} {many most : Int} {A B : List Nd} {t : Nd} (h : LinkRel w p many most A t B t.h W) (hb : Below W.heap.size W w3) (hF : ∀ g, InF p (A ++ t :: B) g → g < w.heap.size) (hnd : (p :: blks (A ++ t :: B)).Nodup) (hs : ∀ n ∈ A ++ t :: B, 1 ≤ n.h ∧ n.h ≤ 8) (v0 v1 v2 v3 v4 v5 v6 v7 : Value) :
    Linked w p many most (A ++ t :: B) ((((((((w3.setCell ⟨w.heap.size + 1, 0, none⟩ v0).setCell ⟨w.heap.size + 1, 1, none⟩ v1).setCell ⟨w.heap.size + 1, 2, none⟩ v2).setCell ⟨w.heap.size + 1, 3, none⟩ v3).setCell ⟨w.heap.size + 1, 4, none⟩ v4).setCell ⟨w.heap.size + 1, 5, none⟩ v5).setCell ⟨w.heap.size + 1, 6, none⟩ v6).setCell ⟨w.heap.size + 1, 7, none⟩ v7) := by
  have hw : Wrote (InF p (A ++ t :: B)) w w3 := h.wr.trans (Wrote.of hb _)
  have hw8 := wrote8 (F := fun b => b = w.heap.size + 1) (Wrote.refl _ w3) (B := w.heap.size + 1) (.inr rfl) v0 v1 v2 v3 v4 v5 v6 v7
  refine ⟨Lnk.done (h.ln.keep fun g hg => ?_) hnd hs, wrote8 hw (.inl (Nat.le_succ _)) _ _ _ _ _ _ _ _⟩
  have h1 := hF g hg
  exact (hw8.block g (Nat.lt_of_lt_of_le (h.ln.lt g hg) hb.size) (by omega)).trans (hb.block g (h.ln.lt g hg))

set_option maxRecDepth 100000 in
set_option maxHeartbeats 4000000 in
theorem linkAny {w : World} {p : Nat} {many most : Int} {A B : List Nd} {t : Nd} (h : Bod w p many most (A ++ B)) (ht : Tow w t) (hs : 1 ≤ t.h ∧ t.h ≤ 8) (hnd : (p :: blks (A ++ t :: B)).Nodup) :
    Calls Try.prog 40 #[(.agg #[.pointer (some ⟨(pos p A) 0, 0, none⟩), .pointer (some ⟨(pos p A) 1, 0, none⟩), .pointer (some ⟨(pos p A) 2, 0, none⟩), .pointer (some ⟨(pos p A) 3, 0, none⟩), .pointer (some ⟨(pos p A) 4, 0, none⟩), .pointer (some ⟨(pos p A) 5, 0, none⟩), .pointer (some ⟨(pos p A) 6, 0, none⟩), .pointer (some ⟨(pos p A) 7, 0, none⟩)]), .pointer (some ⟨t.b, 0, none⟩)] w fun e w' => e = .returned (.agg #[.pointer (some ⟨(upd (pos p A) t.b t.h) 0, 0, none⟩), .pointer (some ⟨(upd (pos p A) t.b t.h) 1, 0, none⟩), .pointer (some ⟨(upd (pos p A) t.b t.h) 2, 0, none⟩), .pointer (some ⟨(upd (pos p A) t.b t.h) 3, 0, none⟩), .pointer (some ⟨(upd (pos p A) t.b t.h) 4, 0, none⟩), .pointer (some ⟨(upd (pos p A) t.b t.h) 5, 0, none⟩), .pointer (some ⟨(upd (pos p A) t.b t.h) 6, 0, none⟩), .pointer (some ⟨(upd (pos p A) t.b t.h) 7, 0, none⟩)]) ∧ Linked w p many most (A ++ t :: B) w' := by
  have HS0 := Lib.hid (linkStart h ht)
  have HF := Lib.hid (show ∀ g, InF p (A ++ t :: B) g → g < w.heap.size from fun g hg => by
    rcases List.mem_cons.1 hg with e | e
    · rw [e]; exact h.hd.lt
    · simp only [blks, List.map_append, List.map_cons, List.mem_append, List.mem_cons] at e
      rcases e with e | e | e
      · exact h.lt g (List.mem_cons_of_mem _ (by rw [blks_append]; exact List.mem_append_left _ e))
      · rw [e]; exact ht.lt
      · exact h.lt g (List.mem_cons_of_mem _ (by rw [blks_append]; exact List.mem_append_right _ e)))
  have HN := Lib.hid hnd
  have HSS := Lib.hid (show ∀ n ∈ A ++ t :: B, 1 ≤ n.h ∧ n.h ≤ 8 from fun n hn => by
    simp only [List.mem_append, List.mem_cons] at hn
    rcases hn with hn | hn | hn
    · exact h.hs n (by simp [hn])
    · rw [hn]; exact hs
    · exact h.hs n (by simp [hn]))
  clear h ht hnd
  go_enter Try.func40, Try.ntmps40
  have c1 := (HS0.out.ln.tow t (by simp)).c1
  go_wp2
  generalize ((w.alloc (.cells #[.pointer (some ⟨(pos p A) 0, 0, none⟩), .pointer (some ⟨(pos p A) 1, 0, none⟩), .pointer (some ⟨(pos p A) 2, 0, none⟩), .pointer (some ⟨(pos p A) 3, 0, none⟩), .pointer (some ⟨(pos p A) 4, 0, none⟩), .pointer (some ⟨(pos p A) 5, 0, none⟩), .pointer (some ⟨(pos p A) 6, 0, none⟩), .pointer (some ⟨(pos p A) 7, 0, none⟩)] 67)).alloc (.cells #[.pointer none, .pointer none, .pointer none, .pointer none, .pointer none, .pointer none, .pointer none, .pointer none] 67)) = W0 at *
  clear c1
  go_loopw [10] (fun i wr => ∃ k : Nat, k ≤ t.h ∧ i = .int .i64 k ∧ LinkRel w p many most A t B k wr) (fun i _ => t.h - (intOf i).toNat)
  case atStart => exact ⟨0, Nat.zero_le _, rfl, HS0.out⟩
  case round =>
    obtain ⟨k, hk, rfl, hr⟩ := hrel
    clear HS0
    by_cases hlt : k < t.h
    · have k8 : k < 8 := by omega
      have i0 : (0 : Int) ≤ (k : Int) := by omega
      have i8 : (k : Int) < 8 := by omega
      have HR := Lib.hid ((LinkRel.round ⟨hr.ln.keep (fun _ _ => rfl), hr.pb, hr.rb, hr.wr.drew⟩ HF.out k8 hlt HN.out : LinkRel w p many most A t B (k + 1) ((wr.drew.setCell ⟨t.b, 2 + k, none⟩ (nxv (lv B k))).setCell ⟨pos p A k, 2 + k, none⟩ (.pointer (some ⟨t.b, 0, none⟩)))))
      have cb := hr.pb.cell k k8
      have cl := hr.ln.load k8
      obtain ⟨u, cu⟩ := (hr.ln.tow t (by simp)).ex k k8
      have fu := (hr.ln.tow t (by simp)).f (2 + k)
      have ft := hr.ln.posF k (2 + k)
      have hne : pos p A k ≠ t.b := fun e => by
        have h1 := nodupInsert HN.out
        refine h1.2 ?_
        rw [← e]
        rcases List.mem_cons.1 (pos_mem p A k) with e | e
        · rw [e]; simp
        · exact List.mem_cons_of_mem _ (by rw [blks_append]; exact List.mem_append_left _ (lv_blks e))
      have hne2 : w.heap.size ≠ t.b := by have := HF.out t.b (List.mem_cons_of_mem _ (by simp [blks])); omega
      have HNE := Lib.hid (And.intro hne hne2)
      clear hr hne hne2
      obtain ⟨y, hy⟩ := nxv_ptr (lv B k)
      rw [hy] at HR cl
      clear hy
      generalize pos p A k = q at *
      generalize t.b = tb at *
      go_wp2
      go_still_tail 13, (by kernel_rfl)
      have cu1 : wr.drew.cell? ⟨tb, 2 + k, none⟩ = some u := cu
      have fu1 : wr.drew.frozen? ⟨tb, 2 + k, none⟩ = false := fu
      have cl1 : wr.drew.cell? ⟨q, 2 + k, none⟩ = some (.pointer y) := cl
      have ft1 : wr.drew.frozen? ⟨q, 2 + k, none⟩ = false := ft
      have cb1 : wr.drew.cell? ⟨w.heap.size, k, none⟩ = some (.pointer (some ⟨q, 0, none⟩)) := cb
      change wpList _ _ _ _ _ wr.drew
      clear cu fu cl ft cb
      generalize wr.drew = W2 at *
      have cb2 : (W2.setCell ⟨tb, 2 + k, none⟩ (.pointer y)).cell? ⟨w.heap.size, k, none⟩ = some (.pointer (some ⟨q, 0, none⟩)) := (World.cell?_of_block (Below.heap_setCell _ _ _ _ HNE.out.2)).trans cb1
      have cl2 : (W2.setCell ⟨tb, 2 + k, none⟩ (.pointer y)).cell? ⟨q, 2 + k, none⟩ = some (.pointer y) := (cellFar HNE.out.1 _).trans cl1
      have ft2 : (W2.setCell ⟨tb, 2 + k, none⟩ (.pointer y)).frozen? ⟨q, 2 + k, none⟩ = false := by rw [World.frozen?_setCell]; exact ft1
      clear cb1 cl1 ft1
      go_upto_region 5 with (fail)
      generalize W2.setCell ⟨tb, 2 + k, none⟩ (.pointer y) = W3 at *
      clear cu1 fu1
      go_wp2
      go_roundw
      case rel => exact ⟨k + 1, by omega, by go_num, HR.out⟩
      case measure => simp [intOf]; omega
    · obtain rfl : k = t.h := by omega
      have c1 := (hr.ln.tow t (by simp)).c1
      have hps := hr.pb
      have hrb := hr.rb
      have HRW := Lib.hid hr
      have p0 := hps.cell 0 (by omega)
      have p1 := hps.cell 1 (by omega)
      have p2 := hps.cell 2 (by omega)
      have p3 := hps.cell 3 (by omega)
      have p4 := hps.cell 4 (by omega)
      have p5 := hps.cell 5 (by omega)
      have p6 := hps.cell 6 (by omega)
      have p7 := hps.cell 7 (by omega)
      have hth : t.h ≤ 8 := hs.2
      have C := reachAny wr.drew (pos p A) t.b t.h hth
      clear hr hs hps hrb
      go_wp2
      go_still_tail 6, (by kernel_rfl)
      change wpList _ _ _ _ _ wr.drew
      have HB1 := Lib.hid (show Below wr.heap.size wr wr.drew from (Below.refl _ _).drew)
      clear p0 p1 p2 p3 p4 p5 p6 p7 c1
      generalize wr.drew = W2 at *
      go_wp2_with fail
      refine C.mono ?_
      clear C
      rintro e w3 ⟨rfl, hb3⟩
      have hb := HB1.out.trans (hb3.mono HB1.out.size)
      have hrb : RBox0 w3 (w.heap.size + 1) := (hb.block _ (lt_of_block HRW.out.rb)).trans HRW.out.rb
      have HB := Lib.hid hb
      have r0 := hrb.cell 0
      have f0 := hrb.f 0
      have r1 := hrb.cell 1
      have f1 := hrb.f 1
      have r2 := hrb.cell 2
      have f2 := hrb.f 2
      have r3 := hrb.cell 3
      have f3 := hrb.f 3
      have r4 := hrb.cell 4
      have f4 := hrb.f 4
      have r5 := hrb.cell 5
      have f5 := hrb.f 5
      have r6 := hrb.cell 6
      have f6 := hrb.f 6
      have r7 := hrb.cell 7
      have f7 := hrb.f 7
      clear hb hb3 hrb
      go_wp2
      refine bodyPost_ret (v := (.agg #[.pointer (some ⟨(upd (pos p A) t.b t.h) 0, 0, none⟩), .pointer (some ⟨(upd (pos p A) t.b t.h) 1, 0, none⟩), .pointer (some ⟨(upd (pos p A) t.b t.h) 2, 0, none⟩), .pointer (some ⟨(upd (pos p A) t.b t.h) 3, 0, none⟩), .pointer (some ⟨(upd (pos p A) t.b t.h) 4, 0, none⟩), .pointer (some ⟨(upd (pos p A) t.b t.h) 5, 0, none⟩), .pointer (some ⟨(upd (pos p A) t.b t.h) 6, 0, none⟩), .pointer (some ⟨(upd (pos p A) t.b t.h) 7, 0, none⟩)])) (by simp [results, Try.results40, go_sem, r0, r1, r2, r3, r4, r5, r6, r7]) rfl ⟨rfl, ?_⟩
      exact linkEnd HRW.out HB.out HF.out HN.out HSS.out _ _ _ _ _ _ _ _

end Go.Proofs.Ytjcdbdhdmalfaaa
