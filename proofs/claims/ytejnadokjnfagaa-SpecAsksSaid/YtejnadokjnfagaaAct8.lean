/-
  put and take of package spec, at each place. Conditions: a list of at most a thousand numbers.
-/
import Derived.Test.YtejnadokjnfagaaTake8
namespace Go.Proofs.Ytejnadokjnfagaa
open Go.RowKit Go.Lib

section
variable {w W w1 w3 : World} {v v' : Value} {xs ys : List Value} {o : Obj}

theorem tailReads {zs : List Int} (h : Tail w v (zs.map (Value.int .i32))) : ∃ ao cap, v = .slice ao zs.length cap ∧ Reads .i32 w ao zs.length zs ∧ zs.length ≤ cap := by
  rcases h with ⟨rfl, h'⟩ | ⟨g, off, cap, rfl, hl, hc, hm, hx, hr⟩
  · simp at h'; subst h'
    exact ⟨none, 0, rfl, ⟨rfl, fun h => by simp at h⟩, by simp⟩
  · rw [List.length_map] at hc hx ⊢
    refine ⟨_, cap, rfl, ⟨rfl, fun hp => ⟨g, off, rfl, hl, fun i hi => ?_⟩⟩, hc⟩
    rw [hx i hi]
    simp [List.getD, hi]

theorem tail_in {zs : List Int} (h : Tail w v (zs.map (Value.int .i32))) (hb : Below w.heap.size w w1) : Tail w1 v (zs.map (Value.int .i32)) := h.keep hb.size (fun g hg => hb.block g (h.lt hg))

/-- What stands behind a call that changes the list, in front of which a box was made. -/
theorem put_mid (h : Tail w v xs) (hb : Below w.heap.size w W) (b0 : RBox W w.heap.size 0 0) (hb1 : Below W.heap.size W w1) (t : TailPost (w1.alloc o) v ys (.returned v') w3) :
    RBox w3 w.heap.size 0 0 ∧ Tail w3 v' ys ∧ Wrote (Own v) w w3 ∧ Later (Own v) (Own v') w ∧ v'.ownBlock ≠ some w.heap.size := by
  obtain ⟨v2, e, t1, t2, t3⟩ := t
  injection e with e
  subst e
  have hs : w.heap.size + 1 ≤ W.heap.size := b0.lt
  have hb2 : Below W.heap.size W (w1.alloc o) := hb1.alloc hb1.size o
  have hsz := hb2.size
  have hne : v.ownBlock ≠ some w.heap.size := fun e => by have := h.lt e; omega
  refine ⟨?_, t1, (Wrote.of (hb.trans (hb2.mono hb.size)) _).trans (Wrote.ofGrown t2), fun g hg => ?_, fun e => ?_⟩
  · rw [RBox, t2.block w.heap.size (by omega) (fun e => hne e.symm), hb2.block w.heap.size (by omega)]
    exact b0
  · rcases t3 g hg with h1 | h1
    · exact .inl h1
    · exact .inr (by omega)
  · rcases t3 _ e with h1 | h1
    · exact hne h1
    · omega

/-- The answer's box is written. -/
theorem did_mk {zs : List Int} {c x : Int} (t : Tail w3 v' (zs.map (Value.int .i32))) (hw : Wrote (Own v) w w3) (l : Later (Own v) (Own v') w) (hne : v'.ownBlock ≠ some w.heap.size) :
    DidTail w v zs c x (.returned (.tuple #[v', .agg #[.int .u8 c, .int .i32 x]])) ((w3.setCell ⟨w.heap.size, 0, none⟩ (.int .u8 c)).setCell ⟨w.heap.size, 1, none⟩ (.int .i32 x)) :=
  ⟨v', rfl, (t.other (p := ⟨w.heap.size, 0, none⟩) hne _).other (p := ⟨w.heap.size, 1, none⟩) hne _, (hw.setCell (q := ⟨w.heap.size, 0, none⟩) (.inl (Nat.le_refl _)) _).setCell (q := ⟨w.heap.size, 1, none⟩) (.inl (Nat.le_refl _)) _, l⟩

theorem begunRes (w : World) : ∀ W, w.alloc (.cells #[.int .u8 0, .int .i32 0] 32) = W → RBox W w.heap.size 0 0 ∧ Below w.heap.size w W := by
  rintro W rfl
  exact ⟨RBox.new w 0 0, (Below.refl _ _).alloc (Nat.le_refl _) _⟩
end

section
variable {w : World}

set_option maxHeartbeats 3200000 in
theorem putFull (v : Value) (zs : List Int) (h : Tail w v (zs.map (Value.int .i32))) (m x : Int) (f : Value) (hm : m ≤ zs.length) (_ : zs.length ≤ 1000) :
    Calls Try.prog 34 #[.int .i64 m, v, .int .i32 x, f] w (DidTail w v zs 3 0) := by
  obtain ⟨ao, cap, rfl, _, _⟩ := tailReads h
  have hne : (Value.slice ao zs.length cap).ownBlock ≠ some w.heap.size := fun e => by have := h.lt e; omega
  have HT := Lib.hid h
  clear h
  go_enter Try.func34, Try.ntmps34
  go_upto_region 1 with (fail)
  generalize hW : w.alloc (.cells #[.int .u8 0, .int .i32 0] 32) = W
  obtain ⟨b0, hb⟩ := begunRes w W hW
  have c0 := b0.c0
  have c1 := b0.c1
  have f0 := b0.f
  have r := b0.set2 3 0
  have r0 := r.c0
  have r1 := r.c1
  have HE := Lib.hid (did_mk (c := 3) (x := 0) (tail_in HT.out hb) (Wrote.of hb (Own (.slice ao zs.length cap))) (Later.refl _ _) hne)
  clear hW hb b0 r
  generalize zs.length = n at *
  go_wp2
  exact bodyPost_ret (v := .tuple #[.slice ao n cap, .agg #[.int .u8 3, .int .i32 0]]) (by simp [results, Try.results34, go_sem, r0, r1]) rfl HE.out

set_option maxHeartbeats 3200000 in
theorem putBehind (v : Value) (zs : List Int) (h : Tail w v (zs.map (Value.int .i32))) (m x : Int) (hm : (zs.length : Int) < m) (hn : zs.length < 1000) :
    Calls Try.prog 34 #[.int .i64 m, v, .int .i32 x, .func (.func 35) #[] #[]] w (DidTail w v (zs ++ [x]) 1 0) := by
  obtain ⟨ao, cap, rfl, hrd, _⟩ := tailReads h
  have HT := Lib.hid h
  have HR := Lib.hid hrd
  have hlt : ∀ W : World, w.heap.size ≤ W.heap.size → (Value.slice ao zs.length cap).ownBlock ≠ some W.heap.size := fun W hW e => by have := h.lt e; omega
  have HLT := Lib.hid hlt
  clear h hrd hlt
  obtain ⟨n, hz⟩ : ∃ n, zs.length = n := ⟨_, rfl⟩
  have HZ := Lib.hid hz
  rw [hz] at HT HR HLT hm hn ⊢
  clear hz
  have hg : ¬ m ≤ (n : Int) := by omega
  go_enter Try.func34, Try.ntmps34
  go_upto_region 1 with (fail)
  generalize hW : w.alloc (.cells #[.int .u8 0, .int .i32 0] 32) = W
  obtain ⟨b0, hb⟩ := begunRes w W hW
  have HB0 := Lib.hid b0
  have HB := Lib.hid hb
  clear hW b0 hb
  go_upto_region 3 with (fail)
  go_wp2_with fail
  refine (behindAny W ao n cap (.int .i32 x) (by omega)).mono ?_
  rintro e w1 ⟨rfl, hw1⟩
  have HB1 := Lib.hid (show Below W.heap.size W w1 by rw [← hw1]; exact Below.refl _ _)
  clear hw1
  go_wp2_with fail
  refine (insertAny (.slice ao n cap) zs (by exact (tail_in (tail_in HT.out HB.out) HB1.out).alloc _) n w1.heap.size x 21 (heap_alloc_new w1 _) (HLT.out w1 (Nat.le_trans HB.out.size HB1.out.size)) (by rw [HZ.out]; exact Nat.le_refl _) (by rw [HZ.out]; omega) _ rfl).mono ?_
  rintro e w3 hp
  obtain ⟨v', rfl, hp'⟩ := hp
  obtain ⟨b3, t3, hw3, l3, n3⟩ := put_mid HT.out HB.out HB0.out HB1.out ⟨v', rfl, hp'⟩
  have c0 := b3.c0
  have c1 := b3.c1
  have f0 := b3.f
  have r := b3.set2 1 0
  have r0 := r.c0
  have r1 := r.c1
  have HE := Lib.hid (did_mk (c := 1) (x := 0) t3 hw3 l3 n3)
  clear hp' b3 t3 hw3 l3 n3 r
  go_wp2
  exact bodyPost_ret (v := .tuple #[v', .agg #[.int .u8 1, .int .i32 0]]) (by simp [results, Try.results34, go_sem, r0, r1]) rfl (by have := HE.out; rw [List.take_of_length_le (by rw [HZ.out]; omega), List.drop_eq_nil_of_le (by rw [HZ.out]; omega)] at this; exact this)

set_option maxHeartbeats 3200000 in
theorem putFirst (v : Value) (zs : List Int) (h : Tail w v (zs.map (Value.int .i32))) (m x : Int) (hm : (zs.length : Int) < m) (hn : zs.length < 1000) :
    Calls Try.prog 34 #[.int .i64 m, v, .int .i32 x, .func (.func 38) #[] #[]] w (DidTail w v (x :: zs) 1 0) := by
  obtain ⟨ao, cap, rfl, hrd, _⟩ := tailReads h
  have HT := Lib.hid h
  have HR := Lib.hid hrd
  have hlt : ∀ W : World, w.heap.size ≤ W.heap.size → (Value.slice ao zs.length cap).ownBlock ≠ some W.heap.size := fun W hW e => by have := h.lt e; omega
  have HLT := Lib.hid hlt
  clear h hrd hlt
  obtain ⟨n, hz⟩ : ∃ n, zs.length = n := ⟨_, rfl⟩
  have HZ := Lib.hid hz
  rw [hz] at HT HR HLT hm hn ⊢
  clear hz
  have hg : ¬ m ≤ (n : Int) := by omega
  go_enter Try.func34, Try.ntmps34
  go_upto_region 1 with (fail)
  generalize hW : w.alloc (.cells #[.int .u8 0, .int .i32 0] 32) = W
  obtain ⟨b0, hb⟩ := begunRes w W hW
  have HB0 := Lib.hid b0
  have HB := Lib.hid hb
  clear hW b0 hb
  go_upto_region 3 with (fail)
  go_wp2_with fail
  refine (firstAny W (.slice ao n cap) (.int .i32 x)).mono ?_
  rintro e w1 ⟨rfl, hw1⟩
  have HB1 := Lib.hid (show Below W.heap.size W w1 by rw [← hw1]; exact Below.refl _ _)
  clear hw1
  go_wp2_with fail
  refine (insertAny (.slice ao n cap) zs (by exact (tail_in (tail_in HT.out HB.out) HB1.out).alloc _) 0 w1.heap.size x 21 (heap_alloc_new w1 _) (HLT.out w1 (Nat.le_trans HB.out.size HB1.out.size)) (Nat.zero_le _) (by rw [HZ.out]; omega) _ rfl).mono ?_
  rintro e w3 hp
  obtain ⟨v', rfl, hp'⟩ := hp
  obtain ⟨b3, t3, hw3, l3, n3⟩ := put_mid HT.out HB.out HB0.out HB1.out ⟨v', rfl, hp'⟩
  have c0 := b3.c0
  have c1 := b3.c1
  have f0 := b3.f
  have r := b3.set2 1 0
  have r0 := r.c0
  have r1 := r.c1
  have HE := Lib.hid (did_mk (c := 1) (x := 0) t3 hw3 l3 n3)
  clear hp' b3 t3 hw3 l3 n3 r
  go_wp2
  exact bodyPost_ret (v := .tuple #[v', .agg #[.int .u8 1, .int .i32 0]]) (by simp [results, Try.results34, go_sem, r0, r1]) rfl HE.out

set_option maxHeartbeats 3200000 in
theorem putAhead (v : Value) (zs : List Int) (h : Tail w v (zs.map (Value.int .i32))) (m x : Int) (hm : (zs.length : Int) < m) (hn : zs.length < 1000) :
    Calls Try.prog 34 #[.int .i64 m, v, .int .i32 x, .func (.func 39) #[] #[]] w (DidTail w v (zs.take (fgt x zs) ++ x :: zs.drop (fgt x zs)) 1 0) := by
  obtain ⟨ao, cap, rfl, hrd, _⟩ := tailReads h
  have HT := Lib.hid h
  have HR := Lib.hid hrd
  have hlt : ∀ W : World, w.heap.size ≤ W.heap.size → (Value.slice ao zs.length cap).ownBlock ≠ some W.heap.size := fun W hW e => by have := h.lt e; omega
  have HLT := Lib.hid hlt
  clear h hrd hlt
  obtain ⟨n, hz⟩ : ∃ n, zs.length = n := ⟨_, rfl⟩
  have HZ := Lib.hid hz
  rw [hz] at HT HR HLT hm hn ⊢
  clear hz
  have hg : ¬ m ≤ (n : Int) := by omega
  go_enter Try.func34, Try.ntmps34
  go_upto_region 1 with (fail)
  generalize hW : w.alloc (.cells #[.int .u8 0, .int .i32 0] 32) = W
  obtain ⟨b0, hb⟩ := begunRes w W hW
  have HB0 := Lib.hid b0
  have HB := Lib.hid hb
  clear hW b0 hb
  go_upto_region 3 with (fail)
  go_wp2_with fail
  refine (aheadAny W x ao n cap zs (HR.out.keep HB.out) (by omega)).mono ?_
  rintro e w1 ⟨rfl, hw1⟩
  have HB1 := Lib.hid hw1
  clear hw1
  go_wp2_with fail
  refine (insertAny (.slice ao n cap) zs (by exact (tail_in (tail_in HT.out HB.out) HB1.out).alloc _) (fgt x zs) w1.heap.size x 21 (heap_alloc_new w1 _) (HLT.out w1 (Nat.le_trans HB.out.size HB1.out.size)) (fgt_le x zs) (by rw [HZ.out]; omega) _ rfl).mono ?_
  rintro e w3 hp
  obtain ⟨v', rfl, hp'⟩ := hp
  obtain ⟨b3, t3, hw3, l3, n3⟩ := put_mid HT.out HB.out HB0.out HB1.out ⟨v', rfl, hp'⟩
  have c0 := b3.c0
  have c1 := b3.c1
  have f0 := b3.f
  have r := b3.set2 1 0
  have r0 := r.c0
  have r1 := r.c1
  have HE := Lib.hid (did_mk (c := 1) (x := 0) t3 hw3 l3 n3)
  clear hp' b3 t3 hw3 l3 n3 r
  go_wp2
  exact bodyPost_ret (v := .tuple #[v', .agg #[.int .u8 1, .int .i32 0]]) (by simp [results, Try.results34, go_sem, r0, r1]) rfl HE.out

set_option maxHeartbeats 3200000 in
theorem takeNone (v : Value) (zs : List Int) (h : Tail w v (zs.map (Value.int .i32))) (m x : Int) (f : Value) (hm : zs.length = 0) (_ : zs.length ≤ 1000) :
    Calls Try.prog 36 #[.int .i64 m, v, .int .i32 x, f] w (DidTail w v zs 4 0) := by
  obtain ⟨ao, cap, rfl, _, _⟩ := tailReads h
  have hne : (Value.slice ao zs.length cap).ownBlock ≠ some w.heap.size := fun e => by have := h.lt e; omega
  have HT := Lib.hid h
  clear h
  rw [hm] at HT hne ⊢
  clear hm
  go_enter Try.func36, Try.ntmps36
  go_upto_region 1 with (fail)
  generalize hW : w.alloc (.cells #[.int .u8 0, .int .i32 0] 32) = W
  obtain ⟨b0, hb⟩ := begunRes w W hW
  have c0 := b0.c0
  have c1 := b0.c1
  have f0 := b0.f
  have r := b0.set2 4 0
  have r0 := r.c0
  have r1 := r.c1
  have HE := Lib.hid (did_mk (c := 4) (x := 0) (tail_in HT.out hb) (Wrote.of hb (Own (.slice ao 0 cap))) (Later.refl _ _) hne)
  clear hW hb b0 r
  go_wp2
  exact bodyPost_ret (v := .tuple #[.slice ao 0 cap, .agg #[.int .u8 4, .int .i32 0]]) (by simp [results, Try.results36, go_sem, r0, r1]) rfl HE.out
end

end Go.Proofs.Ytejnadokjnfagaa
