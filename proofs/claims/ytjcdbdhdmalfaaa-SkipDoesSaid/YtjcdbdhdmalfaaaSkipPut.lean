/-
  What start and put of package skip do: an item is put behind all that are it or less, and the place is behind it then. Conditions: a list as Bod says, parted at the value; a place that stands, on each level, at a tower of the first part.
-/
import Derived.Test.YtjcdbdhdmalfaaaStart
namespace Go.Proofs.Ytjcdbdhdmalfaaa
open Go.RowKit

set_option maxRecDepth 100000 in
set_option maxHeartbeats 2000000 in
theorem startAny (w : World) (p : Nat) :
    Calls Try.prog 30 #[.pointer (some ⟨p, 0, none⟩)] w fun e w' => e = .returned (.agg #[.pointer (some ⟨(pos p []) 0, 0, none⟩), .pointer (some ⟨(pos p []) 1, 0, none⟩), .pointer (some ⟨(pos p []) 2, 0, none⟩), .pointer (some ⟨(pos p []) 3, 0, none⟩), .pointer (some ⟨(pos p []) 4, 0, none⟩), .pointer (some ⟨(pos p []) 5, 0, none⟩), .pointer (some ⟨(pos p []) 6, 0, none⟩), .pointer (some ⟨(pos p []) 7, 0, none⟩)]) ∧ Below w.heap.size w w' := by
  go_enter Try.func30, Try.ntmps30
  go_wp2
  have bW := (((Below.refl _ w).alloc (Nat.le_refl _) (.cells #[.pointer none, .pointer none, .pointer none, .pointer none, .pointer none, .pointer none, .pointer none, .pointer none] 67))).alloc (by simp) (.cells #[.pointer none, .pointer none, .pointer none, .pointer none, .pointer none, .pointer none, .pointer none, .pointer none] 67)
  have r0 : RBox0 ((w.alloc (.cells #[.pointer none, .pointer none, .pointer none, .pointer none, .pointer none, .pointer none, .pointer none, .pointer none] 67)).alloc (.cells #[.pointer none, .pointer none, .pointer none, .pointer none, .pointer none, .pointer none, .pointer none, .pointer none] 67)) w.heap.size := (Below.heap_alloc _ _ _ (by simp)).trans (heap_alloc_new w _)
  have r1 : RBox0 ((w.alloc (.cells #[.pointer none, .pointer none, .pointer none, .pointer none, .pointer none, .pointer none, .pointer none, .pointer none] 67)).alloc (.cells #[.pointer none, .pointer none, .pointer none, .pointer none, .pointer none, .pointer none, .pointer none, .pointer none] 67)) (w.heap.size + 1) := by
    have := heap_alloc_new (w.alloc (.cells #[.pointer none, .pointer none, .pointer none, .pointer none, .pointer none, .pointer none, .pointer none, .pointer none] 67)) (.cells #[.pointer none, .pointer none, .pointer none, .pointer none, .pointer none, .pointer none, .pointer none, .pointer none] 67)
    rwa [World.size_alloc] at this
  generalize ((w.alloc (.cells #[.pointer none, .pointer none, .pointer none, .pointer none, .pointer none, .pointer none, .pointer none, .pointer none] 67)).alloc (.cells #[.pointer none, .pointer none, .pointer none, .pointer none, .pointer none, .pointer none, .pointer none, .pointer none] 67)) = W0 at *
  have p0 := r1.cell 0
  have p1 := r1.cell 1
  have p2 := r1.cell 2
  have p3 := r1.cell 3
  have p4 := r1.cell 4
  have p5 := r1.cell 5
  have p6 := r1.cell 6
  have p7 := r1.cell 7
  have HR := Lib.hid (And.intro bW r0)
  clear bW r0 r1
  have C := reachNil W0.drew p
  simp only [] at C
  go_still_tail 4, (by kernel_rfl)
  change wpList _ _ _ _ _ W0.drew
  have HB1 := Lib.hid (show Below W0.heap.size W0 W0.drew from (Below.refl _ _).drew)
  clear p0 p1 p2 p3 p4 p5 p6 p7
  generalize W0.drew = W2 at *
  go_wp2_with fail
  refine C.mono ?_
  clear C
  rintro e w3 ⟨rfl, hb3⟩
  have hb := HB1.out.trans (hb3.mono HB1.out.size)
  have hrb : RBox0 w3 w.heap.size := (hb.block _ (lt_of_block HR.out.2)).trans HR.out.2
  have HB := Lib.hid (HR.out.1.trans (hb.mono HR.out.1.size))
  have r0 := hrb.cell 0
  have f0 := hrb.f 0
  have r1 := hrb.cell 1
  have f1 := hrb.f 1
  have r2 := hrb.cell 2
  have f2 := hrb.f 2
  have r3 := hrb.cell 3
  have f3 := hrb.f 3
  have r4 := hrb.cell 4
  have f4 := hrb.f 4
  have r5 := hrb.cell 5
  have f5 := hrb.f 5
  have r6 := hrb.cell 6
  have f6 := hrb.f 6
  have r7 := hrb.cell 7
  have f7 := hrb.f 7
  clear hb hb3 hrb
  go_wp2
  refine bodyPost_ret (v := (.agg #[.pointer (some ⟨(pos p []) 0, 0, none⟩), .pointer (some ⟨(pos p []) 1, 0, none⟩), .pointer (some ⟨(pos p []) 2, 0, none⟩), .pointer (some ⟨(pos p []) 3, 0, none⟩), .pointer (some ⟨(pos p []) 4, 0, none⟩), .pointer (some ⟨(pos p []) 5, 0, none⟩), .pointer (some ⟨(pos p []) 6, 0, none⟩), .pointer (some ⟨(pos p []) 7, 0, none⟩)])) (by simp [results, Try.results30, go_sem, r0, r1, r2, r3, r4, r5, r6, r7, pos, lv, lst]) rfl ⟨rfl, ?_⟩
  exact set8 HB.out (by omega) _ _ _ _ _ _ _ _

/-- A height: from 1 to 8, whichever is nearest. -/
def hOf (h : Int) : Nat := if h < 1 then 1 else if 8 < h then 8 else h.toNat
theorem hOf_in (h : Int) : 1 ≤ hOf h ∧ hOf h ≤ 8 := by unfold hOf; split <;> (try split) <;> omega
theorem hOf_self (h : Int) (h0 : 1 ≤ h) (h1 : h ≤ 8) : ((hOf h : Nat) : Int) = h := by unfold hOf; rw [if_neg (by omega), if_neg (by omega)]; omega

/-- What put leaves: one more, behind the first part; and the place behind it. -/
def PutPost (w : World) (p : Nat) (many most : Int) (A B : List Nd) (v : Int) (hh : Nat) (e : Ending) (w' : World) : Prop :=
  ∃ tb : Nat, w.heap.size ≤ tb ∧ e = .returned (.agg #[.pointer (some ⟨(pos p (A ++ [⟨tb, v, hh⟩])) 0, 0, none⟩), .pointer (some ⟨(pos p (A ++ [⟨tb, v, hh⟩])) 1, 0, none⟩), .pointer (some ⟨(pos p (A ++ [⟨tb, v, hh⟩])) 2, 0, none⟩), .pointer (some ⟨(pos p (A ++ [⟨tb, v, hh⟩])) 3, 0, none⟩), .pointer (some ⟨(pos p (A ++ [⟨tb, v, hh⟩])) 4, 0, none⟩), .pointer (some ⟨(pos p (A ++ [⟨tb, v, hh⟩])) 5, 0, none⟩), .pointer (some ⟨(pos p (A ++ [⟨tb, v, hh⟩])) 6, 0, none⟩), .pointer (some ⟨(pos p (A ++ [⟨tb, v, hh⟩])) 7, 0, none⟩)]) ∧ Bod w' p (many + 1) most (A ++ ⟨tb, v, hh⟩ :: B) ∧ Wrote (InF p (A ++ B)) w w'

/-- The world where put begins. -/
theorem putStart (w : World) (g : Nat → Nat) : Below w.heap.size w ((w.alloc (.cells #[.pointer (some ⟨g 0, 0, none⟩), .pointer (some ⟨g 1, 0, none⟩), .pointer (some ⟨g 2, 0, none⟩), .pointer (some ⟨g 3, 0, none⟩), .pointer (some ⟨g 4, 0, none⟩), .pointer (some ⟨g 5, 0, none⟩), .pointer (some ⟨g 6, 0, none⟩), .pointer (some ⟨g 7, 0, none⟩)] 67)).alloc (.cells #[.pointer none, .pointer none, .pointer none, .pointer none, .pointer none, .pointer none, .pointer none, .pointer none] 67)) ∧ PBox ((w.alloc (.cells #[.pointer (some ⟨g 0, 0, none⟩), .pointer (some ⟨g 1, 0, none⟩), .pointer (some ⟨g 2, 0, none⟩), .pointer (some ⟨g 3, 0, none⟩), .pointer (some ⟨g 4, 0, none⟩), .pointer (some ⟨g 5, 0, none⟩), .pointer (some ⟨g 6, 0, none⟩), .pointer (some ⟨g 7, 0, none⟩)] 67)).alloc (.cells #[.pointer none, .pointer none, .pointer none, .pointer none, .pointer none, .pointer none, .pointer none, .pointer none] 67)) w.heap.size g ∧ RBox0 ((w.alloc (.cells #[.pointer (some ⟨g 0, 0, none⟩), .pointer (some ⟨g 1, 0, none⟩), .pointer (some ⟨g 2, 0, none⟩), .pointer (some ⟨g 3, 0, none⟩), .pointer (some ⟨g 4, 0, none⟩), .pointer (some ⟨g 5, 0, none⟩), .pointer (some ⟨g 6, 0, none⟩), .pointer (some ⟨g 7, 0, none⟩)] 67)).alloc (.cells #[.pointer none, .pointer none, .pointer none, .pointer none, .pointer none, .pointer none, .pointer none, .pointer none] 67)) (w.heap.size + 1) := by
  have b0 := PBox.new w g
  have be1 : Below w.heap.size w (w.alloc (.cells #[.pointer (some ⟨g 0, 0, none⟩), .pointer (some ⟨g 1, 0, none⟩), .pointer (some ⟨g 2, 0, none⟩), .pointer (some ⟨g 3, 0, none⟩), .pointer (some ⟨g 4, 0, none⟩), .pointer (some ⟨g 5, 0, none⟩), .pointer (some ⟨g 6, 0, none⟩), .pointer (some ⟨g 7, 0, none⟩)] 67)) := (Below.refl _ w).alloc (Nat.le_refl _) _
  generalize hw1 : w.alloc (.cells #[.pointer (some ⟨g 0, 0, none⟩), .pointer (some ⟨g 1, 0, none⟩), .pointer (some ⟨g 2, 0, none⟩), .pointer (some ⟨g 3, 0, none⟩), .pointer (some ⟨g 4, 0, none⟩), .pointer (some ⟨g 5, 0, none⟩), .pointer (some ⟨g 6, 0, none⟩), .pointer (some ⟨g 7, 0, none⟩)] 67) = w1 at *
  have s1 : w1.heap.size = w.heap.size + 1 := by rw [← hw1]; simp
  have r0 : RBox0 (w1.alloc (.cells #[.pointer none, .pointer none, .pointer none, .pointer none, .pointer none, .pointer none, .pointer none, .pointer none] 67)) (w.heap.size + 1) := by
    rw [← s1]; exact heap_alloc_new w1 _
  have be2 : Below w1.heap.size w1 (w1.alloc (.cells #[.pointer none, .pointer none, .pointer none, .pointer none, .pointer none, .pointer none, .pointer none, .pointer none] 67)) := (Below.refl _ w1).alloc (Nat.le_refl _) _
  exact ⟨be1.trans (be2.mono (by omega)), b0.below be2, r0⟩

theorem putCount {w W : World} {p : Nat} {many most : Int} {ns : List Nd} {g : Nat → Nat} (h : Bod w p many most ns) (hs : Below w.heap.size w W ∧ PBox W w.heap.size g ∧ RBox0 W (w.heap.size + 1)) (m : Int) :
    Bod (W.setCell ⟨p, 10, none⟩ (.int .i64 m)) p m most ns ∧ Wrote (InF p ns) w (W.setCell ⟨p, 10, none⟩ (.int .i64 m)) ∧ PBox (W.setCell ⟨p, 10, none⟩ (.int .i64 m)) w.heap.size g ∧ RBox0 (W.setCell ⟨p, 10, none⟩ (.int .i64 m)) (w.heap.size + 1) := by
  have hp := h.hd.lt
  exact ⟨(h.below hs.1).count m, (Wrote.of hs.1 _).setCell (.inr (by simp [InF])) _, (Below.heap_setCell _ _ _ _ (by show w.heap.size ≠ p; omega)).trans hs.2.1, (Below.heap_setCell _ _ _ _ (by show w.heap.size + 1 ≠ p; omega)).trans hs.2.2⟩

/-- The new tower, before it is linked in. -/
theorem putTower {w1 w2 : World} {p : Nat} {many most : Int} {A B : List Nd} {hh : Nat} (h : Bod w1 p many most (A ++ B)) (hb : Below w1.heap.size w1 w2) (v : Int) {x : Int} (hx : ((hh : Nat) : Int) = x) (_hi : 1 ≤ hh ∧ hh ≤ 8) :
    Bod (w2.alloc (.cells #[.int .i32 v, .int .i64 x, .pointer none, .pointer none, .pointer none, .pointer none, .pointer none, .pointer none, .pointer none, .pointer none] 64)) p many most (A ++ B) ∧ Tow (w2.alloc (.cells #[.int .i32 v, .int .i64 x, .pointer none, .pointer none, .pointer none, .pointer none, .pointer none, .pointer none, .pointer none, .pointer none] 64)) ⟨w2.heap.size, v, hh⟩ ∧ (p :: blks (A ++ ⟨w2.heap.size, v, hh⟩ :: B)).Nodup ∧ True := by
  have hb3 : Below w1.heap.size w1 (w2.alloc (.cells #[.int .i32 v, .int .i64 x, .pointer none, .pointer none, .pointer none, .pointer none, .pointer none, .pointer none, .pointer none, .pointer none] 64)) := hb.trans ((Below.refl _ w2).alloc hb.size _)
  refine ⟨h.below hb3, ⟨_, heap_alloc_new w2 _, rfl, rfl, by subst hx; rfl⟩, ?_, trivial⟩
  have hn := h.nd
  have hlt : w2.heap.size ∉ p :: blks (A ++ B) := fun e => by have := h.lt _ e; have := hb.size; omega
  simp only [blks, List.map_append, List.map_cons, List.nodup_cons, List.mem_append, List.mem_cons, not_or, List.nodup_append] at *
  obtain ⟨⟨n1, n2⟩, n3, n4, n5⟩ := hn
  obtain ⟨m1, m2, m3⟩ := hlt
  refine ⟨⟨n1, fun e => m1 e.symm, n2⟩, n3, ⟨m3, n4⟩, fun a ha b hb => ?_⟩
  rcases hb with rfl | hb
  · exact fun e => m2 (e ▸ ha)
  · exact n5 a ha b hb

theorem putEnd {w W1 w2 w3 : World} {p : Nat} {many most : Int} {A B : List Nd} {v : Int} {hh : Nat} {g : Nat → Nat} {o : Obj} (h : Bod w p many most (A ++ B)) (ht : Wrote (InF p (A ++ B)) w W1 ∧ PBox W1 w.heap.size g ∧ RBox0 W1 (w.heap.size + 1)) (hb2 : Below W1.heap.size W1 w2)
    (hl : Linked (w2.alloc o) p (many + 1) most (A ++ ⟨w2.heap.size, v, hh⟩ :: B) w3) (_ : True) :
    RBox0 w3 (w.heap.size + 1) ∧ ∀ v0 v1 v2 v3 v4 v5 v6 v7, PutPost w p many most A B v hh (.returned (.agg #[.pointer (some ⟨(upd (pos p A) w2.heap.size hh) 0, 0, none⟩), .pointer (some ⟨(upd (pos p A) w2.heap.size hh) 1, 0, none⟩), .pointer (some ⟨(upd (pos p A) w2.heap.size hh) 2, 0, none⟩), .pointer (some ⟨(upd (pos p A) w2.heap.size hh) 3, 0, none⟩), .pointer (some ⟨(upd (pos p A) w2.heap.size hh) 4, 0, none⟩), .pointer (some ⟨(upd (pos p A) w2.heap.size hh) 5, 0, none⟩), .pointer (some ⟨(upd (pos p A) w2.heap.size hh) 6, 0, none⟩), .pointer (some ⟨(upd (pos p A) w2.heap.size hh) 7, 0, none⟩)])) ((((((((w3.setCell ⟨w.heap.size + 1, 0, none⟩ v0).setCell ⟨w.heap.size + 1, 1, none⟩ v1).setCell ⟨w.heap.size + 1, 2, none⟩ v2).setCell ⟨w.heap.size + 1, 3, none⟩ v3).setCell ⟨w.heap.size + 1, 4, none⟩ v4).setCell ⟨w.heap.size + 1, 5, none⟩ v5).setCell ⟨w.heap.size + 1, 6, none⟩ v6).setCell ⟨w.heap.size + 1, 7, none⟩ v7) := by
  have hr1 := lt_of_block ht.2.2
  have hs1 := ht.1.size
  have hs2 := hb2.size
  have hlt := h.lt
  have hin : ∀ b, InF p (A ++ ⟨w2.heap.size, v, hh⟩ :: B) b → InF p (A ++ B) b ∨ b = w2.heap.size := fun b hb => by
    simp only [InF, blks, List.map_append, List.map_cons, List.mem_append, List.mem_cons] at hb ⊢
    rcases hb with hb | hb | hb | hb
    · exact .inl (.inl hb)
    · exact .inl (.inr (.inl hb))
    · exact .inr hb
    · exact .inl (.inr (.inr hb))
  have hsa : (w2.alloc o).heap.size = w2.heap.size + 1 := by simp
  refine ⟨?_, fun v0 v1 v2 v3 v4 v5 v6 v7 => ?_⟩
  · refine (hl.2.block _ (by omega) fun e => ?_).trans ((Below.heap_alloc _ _ _ (by omega)).trans ((hb2.block _ hr1).trans ht.2.2))
    rcases hin _ e with e | e
    · have := hlt _ e; omega
    · omega
  · have hw8 := wrote8 (F := fun b => b = w.heap.size + 1) (Wrote.refl _ w3) (B := w.heap.size + 1) (.inr rfl) v0 v1 v2 v3 v4 v5 v6 v7
    refine ⟨w2.heap.size, by omega, by rw [pos_snoc], hl.1.keep fun b hb => hw8.block b (hl.1.lt b hb) fun e => ?_, ?_⟩
    · subst e
      rcases hin _ hb with e | e
      · have := hlt _ e; omega
      · omega
    · refine wrote8 ?_ (.inl (Nat.le_succ _)) _ _ _ _ _ _ _ _
      have h3 : Wrote (InF p (A ++ B)) w (w2.alloc o) := ht.1.trans (Wrote.of (hb2.trans ((Below.refl _ w2).alloc hs2 o)) _)
      refine ⟨hl.2.os.trans h3.os, hl.2.tape.trans h3.tape, hl.2.output.trans h3.output, Nat.le_trans h3.size hl.2.size, fun k hk hF => ?_⟩
      refine (hl.2.block k (Nat.lt_of_lt_of_le hk h3.size) fun e => ?_).trans (h3.block k hk hF)
      rcases hin _ e with e | e
      · exact hF e
      · omega

set_option maxRecDepth 100000 in
set_option maxHeartbeats 8000000 in
theorem putAny {w : World} {p : Nat} {many most : Int} {A B : List Nd} (h : Bod w p many most (A ++ B)) (v hv : Int) (hA : ∀ n ∈ A, n.v ≤ v) (hB : ∀ n ∈ B, v < n.v) (g : Nat → Nat) (hg : PG p A 8 g) (hm0 : 0 ≤ many) (hm1 : many ≤ 1000) :
    Calls Try.prog 29 #[.pointer (some ⟨p, 0, none⟩), (.agg #[.pointer (some ⟨g 0, 0, none⟩), .pointer (some ⟨g 1, 0, none⟩), .pointer (some ⟨g 2, 0, none⟩), .pointer (some ⟨g 3, 0, none⟩), .pointer (some ⟨g 4, 0, none⟩), .pointer (some ⟨g 5, 0, none⟩), .pointer (some ⟨g 6, 0, none⟩), .pointer (some ⟨g 7, 0, none⟩)]), .int .i32 v, .int .i64 hv] w (PutPost w p many most A B v (hOf hv)) := by
  have H := Lib.hid h
  have HA := Lib.hid hA
  have HB := Lib.hid hB
  have HG := Lib.hid hg
  have HS := Lib.hid (putStart w g)
  clear h hA hB hg
  rcases (show hv < 1 ∨ hv = 1 ∨ 8 < hv ∨ hv = 8 ∨ (1 < hv ∧ hv < 8) from by omega) with h1 | h2 | h3 | h4 | h5
  · have HX := Lib.hid (show ((hOf hv : Nat) : Int) = 1 by unfold hOf; rw [if_pos ‹hv < 1›]; rfl)
    go_enter Try.func29, Try.ntmps29
    go_upto_region 1 with (fail)
    generalize ((w.alloc (.cells #[.pointer (some ⟨g 0, 0, none⟩), .pointer (some ⟨g 1, 0, none⟩), .pointer (some ⟨g 2, 0, none⟩), .pointer (some ⟨g 3, 0, none⟩), .pointer (some ⟨g 4, 0, none⟩), .pointer (some ⟨g 5, 0, none⟩), .pointer (some ⟨g 6, 0, none⟩), .pointer (some ⟨g 7, 0, none⟩)] 67)).alloc (.cells #[.pointer none, .pointer none, .pointer none, .pointer none, .pointer none, .pointer none, .pointer none, .pointer none] 67)) = W0 at *
    have c10 := (H.out.below HS.out.1).hd.c10
    have f10 := (H.out.below HS.out.1).hd.f 10
    go_upto_region 2 with (fail)
    have HT := Lib.hid (putCount H.out HS.out (many + 1))
    generalize W0.setCell ⟨p, 10, none⟩ (.int .i64 (many + 1)) = W1 at *
    clear c10 f10 HS
    have p0 := HT.out.2.2.1.cell 0 (by omega)
    have p1 := HT.out.2.2.1.cell 1 (by omega)
    have p2 := HT.out.2.2.1.cell 2 (by omega)
    have p3 := HT.out.2.2.1.cell 3 (by omega)
    have p4 := HT.out.2.2.1.cell 4 (by omega)
    have p5 := HT.out.2.2.1.cell 5 (by omega)
    have p6 := HT.out.2.2.1.cell 6 (by omega)
    have p7 := HT.out.2.2.1.cell 7 (by omega)
    have C := pastAny HT.out.1 v HA.out HB.out g HG.out
    go_wp2_with fail
    refine C.mono ?_
    clear C p0 p1 p2 p3 p4 p5 p6 p7
    rintro e w2 ⟨rfl, hb2⟩
    have HU := Lib.hid (putTower (hh := hOf hv) HT.out.1 hb2 v HX.out (hOf_in hv))
    have HB2 := Lib.hid hb2
    clear hb2
    have C2 := linkAny HU.out.1 HU.out.2.1 (hOf_in hv) HU.out.2.2.1
    dsimp only at C2
    go_wp2_with fail
    refine C2.mono ?_
    clear C2
    rintro e w3 ⟨rfl, hl⟩
    have HQ := Lib.hid (putEnd H.out HT.out.2 HB2.out hl HU.out.2.2.2)
    clear hl
    have r0 := HQ.out.1.cell 0
    have f0 := HQ.out.1.f 0
    have r1 := HQ.out.1.cell 1
    have f1 := HQ.out.1.f 1
    have r2 := HQ.out.1.cell 2
    have f2 := HQ.out.1.f 2
    have r3 := HQ.out.1.cell 3
    have f3 := HQ.out.1.f 3
    have r4 := HQ.out.1.cell 4
    have f4 := HQ.out.1.f 4
    have r5 := HQ.out.1.cell 5
    have f5 := HQ.out.1.f 5
    have r6 := HQ.out.1.cell 6
    have f6 := HQ.out.1.f 6
    have r7 := HQ.out.1.cell 7
    have f7 := HQ.out.1.f 7
    generalize hOf hv = hh at *
    go_wp2
    refine bodyPost_ret (v := (.agg #[.pointer (some ⟨(upd (pos p A) w2.heap.size hh) 0, 0, none⟩), .pointer (some ⟨(upd (pos p A) w2.heap.size hh) 1, 0, none⟩), .pointer (some ⟨(upd (pos p A) w2.heap.size hh) 2, 0, none⟩), .pointer (some ⟨(upd (pos p A) w2.heap.size hh) 3, 0, none⟩), .pointer (some ⟨(upd (pos p A) w2.heap.size hh) 4, 0, none⟩), .pointer (some ⟨(upd (pos p A) w2.heap.size hh) 5, 0, none⟩), .pointer (some ⟨(upd (pos p A) w2.heap.size hh) 6, 0, none⟩), .pointer (some ⟨(upd (pos p A) w2.heap.size hh) 7, 0, none⟩)])) (by simp [results, Try.results29, go_sem, r0, r1, r2, r3, r4, r5, r6, r7]) rfl ?_
    exact HQ.out.2 _ _ _ _ _ _ _ _
  · obtain rfl : hv = 1 := by omega
    have HX := Lib.hid (show ((hOf 1 : Nat) : Int) = 1 by rfl)
    go_enter Try.func29, Try.ntmps29
    go_upto_region 1 with (fail)
    generalize ((w.alloc (.cells #[.pointer (some ⟨g 0, 0, none⟩), .pointer (some ⟨g 1, 0, none⟩), .pointer (some ⟨g 2, 0, none⟩), .pointer (some ⟨g 3, 0, none⟩), .pointer (some ⟨g 4, 0, none⟩), .pointer (some ⟨g 5, 0, none⟩), .pointer (some ⟨g 6, 0, none⟩), .pointer (some ⟨g 7, 0, none⟩)] 67)).alloc (.cells #[.pointer none, .pointer none, .pointer none, .pointer none, .pointer none, .pointer none, .pointer none, .pointer none] 67)) = W0 at *
    have c10 := (H.out.below HS.out.1).hd.c10
    have f10 := (H.out.below HS.out.1).hd.f 10
    go_upto_region 2 with (fail)
    have HT := Lib.hid (putCount H.out HS.out (many + 1))
    generalize W0.setCell ⟨p, 10, none⟩ (.int .i64 (many + 1)) = W1 at *
    clear c10 f10 HS
    have p0 := HT.out.2.2.1.cell 0 (by omega)
    have p1 := HT.out.2.2.1.cell 1 (by omega)
    have p2 := HT.out.2.2.1.cell 2 (by omega)
    have p3 := HT.out.2.2.1.cell 3 (by omega)
    have p4 := HT.out.2.2.1.cell 4 (by omega)
    have p5 := HT.out.2.2.1.cell 5 (by omega)
    have p6 := HT.out.2.2.1.cell 6 (by omega)
    have p7 := HT.out.2.2.1.cell 7 (by omega)
    have C := pastAny HT.out.1 v HA.out HB.out g HG.out
    go_wp2_with fail
    refine C.mono ?_
    clear C p0 p1 p2 p3 p4 p5 p6 p7
    rintro e w2 ⟨rfl, hb2⟩
    have HU := Lib.hid (putTower (hh := hOf 1) HT.out.1 hb2 v HX.out (hOf_in 1))
    have HB2 := Lib.hid hb2
    clear hb2
    have C2 := linkAny HU.out.1 HU.out.2.1 (hOf_in 1) HU.out.2.2.1
    dsimp only at C2
    go_wp2_with fail
    refine C2.mono ?_
    clear C2
    rintro e w3 ⟨rfl, hl⟩
    have HQ := Lib.hid (putEnd H.out HT.out.2 HB2.out hl HU.out.2.2.2)
    clear hl
    have r0 := HQ.out.1.cell 0
    have f0 := HQ.out.1.f 0
    have r1 := HQ.out.1.cell 1
    have f1 := HQ.out.1.f 1
    have r2 := HQ.out.1.cell 2
    have f2 := HQ.out.1.f 2
    have r3 := HQ.out.1.cell 3
    have f3 := HQ.out.1.f 3
    have r4 := HQ.out.1.cell 4
    have f4 := HQ.out.1.f 4
    have r5 := HQ.out.1.cell 5
    have f5 := HQ.out.1.f 5
    have r6 := HQ.out.1.cell 6
    have f6 := HQ.out.1.f 6
    have r7 := HQ.out.1.cell 7
    have f7 := HQ.out.1.f 7
    generalize hOf 1 = hh at *
    go_wp2
    refine bodyPost_ret (v := (.agg #[.pointer (some ⟨(upd (pos p A) w2.heap.size hh) 0, 0, none⟩), .pointer (some ⟨(upd (pos p A) w2.heap.size hh) 1, 0, none⟩), .pointer (some ⟨(upd (pos p A) w2.heap.size hh) 2, 0, none⟩), .pointer (some ⟨(upd (pos p A) w2.heap.size hh) 3, 0, none⟩), .pointer (some ⟨(upd (pos p A) w2.heap.size hh) 4, 0, none⟩), .pointer (some ⟨(upd (pos p A) w2.heap.size hh) 5, 0, none⟩), .pointer (some ⟨(upd (pos p A) w2.heap.size hh) 6, 0, none⟩), .pointer (some ⟨(upd (pos p A) w2.heap.size hh) 7, 0, none⟩)])) (by simp [results, Try.results29, go_sem, r0, r1, r2, r3, r4, r5, r6, r7]) rfl ?_
    exact HQ.out.2 _ _ _ _ _ _ _ _
  · have HX := Lib.hid (show ((hOf hv : Nat) : Int) = 8 by unfold hOf; rw [if_neg (by omega), if_pos ‹8 < hv›]; rfl)
    go_enter Try.func29, Try.ntmps29
    go_upto_region 1 with (fail)
    generalize ((w.alloc (.cells #[.pointer (some ⟨g 0, 0, none⟩), .pointer (some ⟨g 1, 0, none⟩), .pointer (some ⟨g 2, 0, none⟩), .pointer (some ⟨g 3, 0, none⟩), .pointer (some ⟨g 4, 0, none⟩), .pointer (some ⟨g 5, 0, none⟩), .pointer (some ⟨g 6, 0, none⟩), .pointer (some ⟨g 7, 0, none⟩)] 67)).alloc (.cells #[.pointer none, .pointer none, .pointer none, .pointer none, .pointer none, .pointer none, .pointer none, .pointer none] 67)) = W0 at *
    have c10 := (H.out.below HS.out.1).hd.c10
    have f10 := (H.out.below HS.out.1).hd.f 10
    go_upto_region 2 with (fail)
    have HT := Lib.hid (putCount H.out HS.out (many + 1))
    generalize W0.setCell ⟨p, 10, none⟩ (.int .i64 (many + 1)) = W1 at *
    clear c10 f10 HS
    have p0 := HT.out.2.2.1.cell 0 (by omega)
    have p1 := HT.out.2.2.1.cell 1 (by omega)
    have p2 := HT.out.2.2.1.cell 2 (by omega)
    have p3 := HT.out.2.2.1.cell 3 (by omega)
    have p4 := HT.out.2.2.1.cell 4 (by omega)
    have p5 := HT.out.2.2.1.cell 5 (by omega)
    have p6 := HT.out.2.2.1.cell 6 (by omega)
    have p7 := HT.out.2.2.1.cell 7 (by omega)
    have C := pastAny HT.out.1 v HA.out HB.out g HG.out
    go_wp2_with fail
    refine C.mono ?_
    clear C p0 p1 p2 p3 p4 p5 p6 p7
    rintro e w2 ⟨rfl, hb2⟩
    have HU := Lib.hid (putTower (hh := hOf hv) HT.out.1 hb2 v HX.out (hOf_in hv))
    have HB2 := Lib.hid hb2
    clear hb2
    have C2 := linkAny HU.out.1 HU.out.2.1 (hOf_in hv) HU.out.2.2.1
    dsimp only at C2
    go_wp2_with fail
    refine C2.mono ?_
    clear C2
    rintro e w3 ⟨rfl, hl⟩
    have HQ := Lib.hid (putEnd H.out HT.out.2 HB2.out hl HU.out.2.2.2)
    clear hl
    have r0 := HQ.out.1.cell 0
    have f0 := HQ.out.1.f 0
    have r1 := HQ.out.1.cell 1
    have f1 := HQ.out.1.f 1
    have r2 := HQ.out.1.cell 2
    have f2 := HQ.out.1.f 2
    have r3 := HQ.out.1.cell 3
    have f3 := HQ.out.1.f 3
    have r4 := HQ.out.1.cell 4
    have f4 := HQ.out.1.f 4
    have r5 := HQ.out.1.cell 5
    have f5 := HQ.out.1.f 5
    have r6 := HQ.out.1.cell 6
    have f6 := HQ.out.1.f 6
    have r7 := HQ.out.1.cell 7
    have f7 := HQ.out.1.f 7
    generalize hOf hv = hh at *
    go_wp2
    refine bodyPost_ret (v := (.agg #[.pointer (some ⟨(upd (pos p A) w2.heap.size hh) 0, 0, none⟩), .pointer (some ⟨(upd (pos p A) w2.heap.size hh) 1, 0, none⟩), .pointer (some ⟨(upd (pos p A) w2.heap.size hh) 2, 0, none⟩), .pointer (some ⟨(upd (pos p A) w2.heap.size hh) 3, 0, none⟩), .pointer (some ⟨(upd (pos p A) w2.heap.size hh) 4, 0, none⟩), .pointer (some ⟨(upd (pos p A) w2.heap.size hh) 5, 0, none⟩), .pointer (some ⟨(upd (pos p A) w2.heap.size hh) 6, 0, none⟩), .pointer (some ⟨(upd (pos p A) w2.heap.size hh) 7, 0, none⟩)])) (by simp [results, Try.results29, go_sem, r0, r1, r2, r3, r4, r5, r6, r7]) rfl ?_
    exact HQ.out.2 _ _ _ _ _ _ _ _
  · obtain rfl : hv = 8 := by omega
    have HX := Lib.hid (show ((hOf 8 : Nat) : Int) = 8 by rfl)
    go_enter Try.func29, Try.ntmps29
    go_upto_region 1 with (fail)
    generalize ((w.alloc (.cells #[.pointer (some ⟨g 0, 0, none⟩), .pointer (some ⟨g 1, 0, none⟩), .pointer (some ⟨g 2, 0, none⟩), .pointer (some ⟨g 3, 0, none⟩), .pointer (some ⟨g 4, 0, none⟩), .pointer (some ⟨g 5, 0, none⟩), .pointer (some ⟨g 6, 0, none⟩), .pointer (some ⟨g 7, 0, none⟩)] 67)).alloc (.cells #[.pointer none, .pointer none, .pointer none, .pointer none, .pointer none, .pointer none, .pointer none, .pointer none] 67)) = W0 at *
    have c10 := (H.out.below HS.out.1).hd.c10
    have f10 := (H.out.below HS.out.1).hd.f 10
    go_upto_region 2 with (fail)
    have HT := Lib.hid (putCount H.out HS.out (many + 1))
    generalize W0.setCell ⟨p, 10, none⟩ (.int .i64 (many + 1)) = W1 at *
    clear c10 f10 HS
    have p0 := HT.out.2.2.1.cell 0 (by omega)
    have p1 := HT.out.2.2.1.cell 1 (by omega)
    have p2 := HT.out.2.2.1.cell 2 (by omega)
    have p3 := HT.out.2.2.1.cell 3 (by omega)
    have p4 := HT.out.2.2.1.cell 4 (by omega)
    have p5 := HT.out.2.2.1.cell 5 (by omega)
    have p6 := HT.out.2.2.1.cell 6 (by omega)
    have p7 := HT.out.2.2.1.cell 7 (by omega)
    have C := pastAny HT.out.1 v HA.out HB.out g HG.out
    go_wp2_with fail
    refine C.mono ?_
    clear C p0 p1 p2 p3 p4 p5 p6 p7
    rintro e w2 ⟨rfl, hb2⟩
    have HU := Lib.hid (putTower (hh := hOf 8) HT.out.1 hb2 v HX.out (hOf_in 8))
    have HB2 := Lib.hid hb2
    clear hb2
    have C2 := linkAny HU.out.1 HU.out.2.1 (hOf_in 8) HU.out.2.2.1
    dsimp only at C2
    go_wp2_with fail
    refine C2.mono ?_
    clear C2
    rintro e w3 ⟨rfl, hl⟩
    have HQ := Lib.hid (putEnd H.out HT.out.2 HB2.out hl HU.out.2.2.2)
    clear hl
    have r0 := HQ.out.1.cell 0
    have f0 := HQ.out.1.f 0
    have r1 := HQ.out.1.cell 1
    have f1 := HQ.out.1.f 1
    have r2 := HQ.out.1.cell 2
    have f2 := HQ.out.1.f 2
    have r3 := HQ.out.1.cell 3
    have f3 := HQ.out.1.f 3
    have r4 := HQ.out.1.cell 4
    have f4 := HQ.out.1.f 4
    have r5 := HQ.out.1.cell 5
    have f5 := HQ.out.1.f 5
    have r6 := HQ.out.1.cell 6
    have f6 := HQ.out.1.f 6
    have r7 := HQ.out.1.cell 7
    have f7 := HQ.out.1.f 7
    generalize hOf 8 = hh at *
    go_wp2
    refine bodyPost_ret (v := (.agg #[.pointer (some ⟨(upd (pos p A) w2.heap.size hh) 0, 0, none⟩), .pointer (some ⟨(upd (pos p A) w2.heap.size hh) 1, 0, none⟩), .pointer (some ⟨(upd (pos p A) w2.heap.size hh) 2, 0, none⟩), .pointer (some ⟨(upd (pos p A) w2.heap.size hh) 3, 0, none⟩), .pointer (some ⟨(upd (pos p A) w2.heap.size hh) 4, 0, none⟩), .pointer (some ⟨(upd (pos p A) w2.heap.size hh) 5, 0, none⟩), .pointer (some ⟨(upd (pos p A) w2.heap.size hh) 6, 0, none⟩), .pointer (some ⟨(upd (pos p A) w2.heap.size hh) 7, 0, none⟩)])) (by simp [results, Try.results29, go_sem, r0, r1, r2, r3, r4, r5, r6, r7]) rfl ?_
    exact HQ.out.2 _ _ _ _ _ _ _ _
  · obtain ⟨g1, g8⟩ := h5
    have HX := Lib.hid (show ((hOf hv : Nat) : Int) = hv by exact hOf_self hv (by omega) (by omega))
    go_enter Try.func29, Try.ntmps29
    go_upto_region 1 with (fail)
    generalize ((w.alloc (.cells #[.pointer (some ⟨g 0, 0, none⟩), .pointer (some ⟨g 1, 0, none⟩), .pointer (some ⟨g 2, 0, none⟩), .pointer (some ⟨g 3, 0, none⟩), .pointer (some ⟨g 4, 0, none⟩), .pointer (some ⟨g 5, 0, none⟩), .pointer (some ⟨g 6, 0, none⟩), .pointer (some ⟨g 7, 0, none⟩)] 67)).alloc (.cells #[.pointer none, .pointer none, .pointer none, .pointer none, .pointer none, .pointer none, .pointer none, .pointer none] 67)) = W0 at *
    have c10 := (H.out.below HS.out.1).hd.c10
    have f10 := (H.out.below HS.out.1).hd.f 10
    go_upto_region 2 with (fail)
    have HT := Lib.hid (putCount H.out HS.out (many + 1))
    generalize W0.setCell ⟨p, 10, none⟩ (.int .i64 (many + 1)) = W1 at *
    clear c10 f10 HS
    have p0 := HT.out.2.2.1.cell 0 (by omega)
    have p1 := HT.out.2.2.1.cell 1 (by omega)
    have p2 := HT.out.2.2.1.cell 2 (by omega)
    have p3 := HT.out.2.2.1.cell 3 (by omega)
    have p4 := HT.out.2.2.1.cell 4 (by omega)
    have p5 := HT.out.2.2.1.cell 5 (by omega)
    have p6 := HT.out.2.2.1.cell 6 (by omega)
    have p7 := HT.out.2.2.1.cell 7 (by omega)
    have C := pastAny HT.out.1 v HA.out HB.out g HG.out
    go_wp2_with fail
    refine C.mono ?_
    clear C p0 p1 p2 p3 p4 p5 p6 p7
    rintro e w2 ⟨rfl, hb2⟩
    have HU := Lib.hid (putTower (hh := hOf hv) HT.out.1 hb2 v HX.out (hOf_in hv))
    have HB2 := Lib.hid hb2
    clear hb2
    have C2 := linkAny HU.out.1 HU.out.2.1 (hOf_in hv) HU.out.2.2.1
    dsimp only at C2
    go_wp2_with fail
    refine C2.mono ?_
    clear C2
    rintro e w3 ⟨rfl, hl⟩
    have HQ := Lib.hid (putEnd H.out HT.out.2 HB2.out hl HU.out.2.2.2)
    clear hl
    have r0 := HQ.out.1.cell 0
    have f0 := HQ.out.1.f 0
    have r1 := HQ.out.1.cell 1
    have f1 := HQ.out.1.f 1
    have r2 := HQ.out.1.cell 2
    have f2 := HQ.out.1.f 2
    have r3 := HQ.out.1.cell 3
    have f3 := HQ.out.1.f 3
    have r4 := HQ.out.1.cell 4
    have f4 := HQ.out.1.f 4
    have r5 := HQ.out.1.cell 5
    have f5 := HQ.out.1.f 5
    have r6 := HQ.out.1.cell 6
    have f6 := HQ.out.1.f 6
    have r7 := HQ.out.1.cell 7
    have f7 := HQ.out.1.f 7
    generalize hOf hv = hh at *
    go_wp2
    refine bodyPost_ret (v := (.agg #[.pointer (some ⟨(upd (pos p A) w2.heap.size hh) 0, 0, none⟩), .pointer (some ⟨(upd (pos p A) w2.heap.size hh) 1, 0, none⟩), .pointer (some ⟨(upd (pos p A) w2.heap.size hh) 2, 0, none⟩), .pointer (some ⟨(upd (pos p A) w2.heap.size hh) 3, 0, none⟩), .pointer (some ⟨(upd (pos p A) w2.heap.size hh) 4, 0, none⟩), .pointer (some ⟨(upd (pos p A) w2.heap.size hh) 5, 0, none⟩), .pointer (some ⟨(upd (pos p A) w2.heap.size hh) 6, 0, none⟩), .pointer (some ⟨(upd (pos p A) w2.heap.size hh) 7, 0, none⟩)])) (by simp [results, Try.results29, go_sem, r0, r1, r2, r3, r4, r5, r6, r7]) rfl ?_
    exact HQ.out.2 _ _ _ _ _ _ _ _

end Go.Proofs.Ytjcdbdhdmalfaaa
