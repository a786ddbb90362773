/-
  take of package spec, at the first and at the last place; what each operation of each object does. Conditions: a list of at most a thousand numbers.
-/
import Derived.Test.YtejnadokjnfagaaAct8
namespace Go.Proofs.Ytejnadokjnfagaa
open Go.RowKit Go.Lib

section
variable {w : World}
theorem tailCell {zs : List Int} {ao : Option Addr} {n cap : Nat} (h : Tail w (.slice ao n cap) (zs.map (Value.int .i32))) (i : Nat) (hi : i < zs.length) : ∃ b off, ao = some ⟨b, off, none⟩ ∧ b < w.heap.size ∧ w.cell? ⟨b, off + i, none⟩ = some (.int .i32 (zs.getD i 0)) := by
  obtain ⟨ao', cap', e, hr, _⟩ := tailReads h
  simp only [Value.slice.injEq] at e
  obtain ⟨rfl, _, _⟩ := e
  obtain ⟨b, off, rfl, hb, hc⟩ := hr.2 (by omega)
  exact ⟨b, off, rfl, hb, hc i hi⟩

theorem take_mid {W : World} {v v' : Value} {zs zs' : List Int} (h : Tail w v (zs.map (Value.int .i32))) (hb : Below w.heap.size w W) (t : Tail W v' (zs'.map (Value.int .i32))) (ho : v'.ownBlock = v.ownBlock) :
    Tail W v' (zs'.map (Value.int .i32)) ∧ Wrote (Own v) w W ∧ Later (Own v) (Own v') w ∧ v'.ownBlock ≠ some w.heap.size :=
  ⟨t, Wrote.of hb _, fun g hg => .inl (by unfold Own at hg ⊢; rw [← ho]; exact hg), fun e => by rw [ho] at e; have := h.lt e; omega⟩

set_option maxHeartbeats 3200000 in
theorem takeFirst (v : Value) (y : Int) (ys : List Int) (h : Tail w v ((y :: ys).map (Value.int .i32))) (m x : Int) (hn : ys.length < 1000) :
    Calls Try.prog 36 #[.int .i64 m, v, .int .i32 x, .func (.func 38) #[] #[]] w (DidTail w v ys 2 y) := by
  obtain ⟨ao, cap, rfl, _, _⟩ := tailReads h
  have hzl : (y :: ys).length = ys.length + 1 := by simp
  rw [hzl] at h ⊢
  have HT := Lib.hid h
  obtain ⟨b, off, rfl, bl, hcell⟩ := tailCell h 0 (by simp)
  have hy : (y :: ys).getD 0 0 = y := by rfl
  rw [hy] at hcell
  have HY := Lib.hid hcell
  clear h hzl hy hcell
  generalize hnn : ys.length = n at *
  have HN := Lib.hid hnn
  clear hnn
  go_enter Try.func36, Try.ntmps36
  go_upto_region 1 with (fail)
  generalize hW : w.alloc (.cells #[.int .u8 0, .int .i32 0] 32) = W
  obtain ⟨b0, hb⟩ := begunRes w W hW
  have HB0 := Lib.hid b0
  have HB := Lib.hid hb
  have cy := (hb.cell (p := ⟨b, off, none⟩) bl).trans HY.out
  clear hW b0 hb
  have e0 : (0 : Int) < (n : Int) + 1 := by omega
  have e1 : 0 ≤ (n : Int) := by omega
  have e2 : (n : Int) < (n : Int) + 1 := by omega
  have e3 : ¬ (n : Int) + 1 = 0 := by omega
  have e4 : ((n : Int) + 1 == 0) = false := beq_eq_false_iff_ne.2 e3
  go_upto_region 3 with (fail)
  go_wp2_with fail
  refine (firstAny W (.slice (some ⟨b, off, none⟩) (n + 1) cap) (.int .i32 x)).mono ?_
  rintro e w1 ⟨rfl, rfl⟩
  go_wp2_with fail
  refine (withoutFirst (.slice (some ⟨b, off, none⟩) (n + 1) cap) y ys (by exact tail_in HT.out HB.out) (by rw [HN.out]; omega)).mono ?_
  rintro e w3 ⟨hw3, v', rfl, t3, ho⟩
  subst hw3
  obtain ⟨t3, hw3, l3, n3⟩ := take_mid HT.out HB.out t3 ho
  have b3 := HB0.out
  clear ho
  have c0 := b3.c0
  have c1 := b3.c1
  have f0 := b3.f
  have r := b3.set2 2 y
  have r0 := r.c0
  have r1 := r.c1
  have HE := Lib.hid (did_mk (c := 2) (x := y) t3 hw3 l3 n3)
  clear b3 t3 hw3 l3 n3 r cy e0 e1 e2 e3 e4
  go_wp2
  exact bodyPost_ret (v := .tuple #[v', .agg #[.int .u8 2, .int .i32 y]]) (by simp [results, Try.results36, go_sem, r0, r1]) rfl HE.out

set_option maxHeartbeats 3200000 in
theorem takeLast (v : Value) (y : Int) (ys : List Int) (h : Tail w v ((ys ++ [y]).map (Value.int .i32))) (m x : Int) (h0 : 0 < ys.length) (hn : ys.length < 1000) :
    Calls Try.prog 36 #[.int .i64 m, v, .int .i32 x, .func (.func 37) #[] #[]] w (DidTail w v ys 2 y) := by
  obtain ⟨ao, cap, rfl, _, _⟩ := tailReads h
  have hzl : (ys ++ [y]).length = ys.length + 1 := by simp
  rw [hzl] at h ⊢
  have HT := Lib.hid h
  obtain ⟨b, off, rfl, bl, hcell⟩ := tailCell h ys.length (by simp)
  have hy : (ys ++ [y]).getD ys.length 0 = y := by simp [List.getD]
  rw [hy] at hcell
  have HY := Lib.hid hcell
  clear h hzl hy hcell
  generalize hnn : ys.length = n at *
  have HN := Lib.hid hnn
  clear hnn
  go_enter Try.func36, Try.ntmps36
  go_upto_region 1 with (fail)
  generalize hW : w.alloc (.cells #[.int .u8 0, .int .i32 0] 32) = W
  obtain ⟨b0, hb⟩ := begunRes w W hW
  have HB0 := Lib.hid b0
  have HB := Lib.hid hb
  have cy := (hb.cell (p := ⟨b, off + n, none⟩) bl).trans HY.out
  clear hW b0 hb
  have e0 : (0 : Int) < (n : Int) + 1 := by omega
  have e1 : 0 ≤ (n : Int) := by omega
  have e2 : (n : Int) < (n : Int) + 1 := by omega
  have e3 : ¬ (n : Int) + 1 = 0 := by omega
  have e4 : ((n : Int) + 1 == 0) = false := beq_eq_false_iff_ne.2 e3
  go_upto_region 3 with (fail)
  go_wp2_with fail
  refine (lastAny W (some ⟨b, off, none⟩) (n + 1) cap (.int .i32 x) (by omega)).mono ?_
  rintro e w1 ⟨rfl, rfl⟩
  have e5 : ((n + 1 : Nat) : Int) - 1 = (n : Int) := by omega
  rw [e5]
  clear e5
  go_wp2_with fail
  refine (withoutLast (.slice (some ⟨b, off, none⟩) (n + 1) cap) y ys (by exact tail_in HT.out HB.out) (by rw [HN.out]; omega) (by rw [HN.out]; omega) _ (by rw [HN.out])).mono ?_
  rintro e w3 hp
  obtain ⟨v', rfl, t1, t2, t3'⟩ := hp
  have hsz := HB0.out.lt
  have hne : (Value.slice (some (⟨b, off, none⟩ : Addr)) (n + 1) cap).ownBlock ≠ some w.heap.size := fun e => by have := HT.out.lt e; omega
  have b3 : RBox w3 w.heap.size 0 0 := by rw [RBox, t2.block w.heap.size hsz (fun e => hne e.symm)]; exact HB0.out
  have t3 := t1
  have hw3 : Wrote (Own (.slice (some ⟨b, off, none⟩) (n + 1) cap)) w w3 := (Wrote.of HB.out _).trans (Wrote.ofGrown t2)
  have l3 : Later (Own (.slice (some ⟨b, off, none⟩) (n + 1) cap)) (Own v') w := fun g hg => by
    rcases t3' g hg with h1 | h1
    · exact .inl h1
    · exact .inr (by omega)
  have n3 : v'.ownBlock ≠ some w.heap.size := fun e => by
    rcases t3' _ e with h1 | h1
    · exact hne h1
    · omega
  clear t1 t2 t3' hsz hne
  have c0 := b3.c0
  have c1 := b3.c1
  have f0 := b3.f
  have r := b3.set2 2 y
  have r0 := r.c0
  have r1 := r.c1
  have HE := Lib.hid (did_mk (c := 2) (x := y) t3 hw3 l3 n3)
  clear b3 t3 hw3 l3 n3 r cy e0 e1 e2 e3 e4
  go_wp2
  exact bodyPost_ret (v := .tuple #[v', .agg #[.int .u8 2, .int .i32 y]]) (by simp [results, Try.results36, go_sem, r0, r1]) rfl HE.out

set_option maxHeartbeats 3200000 in
theorem takeLast1 (v : Value) (y : Int) (ys : List Int) (h : Tail w v ((y :: ys).map (Value.int .i32))) (m x : Int) (h0 : ys.length = 0) (_ : ys.length < 1000) :
    Calls Try.prog 36 #[.int .i64 m, v, .int .i32 x, .func (.func 37) #[] #[]] w (DidTail w v ys 2 y) := by
  obtain ⟨ao, cap, rfl, _, _⟩ := tailReads h
  have hzl : (y :: ys).length = ys.length + 1 := by simp
  rw [hzl] at h ⊢
  have HT := Lib.hid h
  obtain ⟨b, off, rfl, bl, hcell⟩ := tailCell h 0 (by simp)
  have hy : (y :: ys).getD 0 0 = y := by rfl
  rw [hy] at hcell
  have HY := Lib.hid hcell
  clear h hzl hy hcell
  rw [h0] at HT ⊢
  have HN := Lib.hid h0
  clear h0
  go_enter Try.func36, Try.ntmps36
  go_upto_region 1 with (fail)
  generalize hW : w.alloc (.cells #[.int .u8 0, .int .i32 0] 32) = W
  obtain ⟨b0, hb⟩ := begunRes w W hW
  have HB0 := Lib.hid b0
  have HB := Lib.hid hb
  have cy := (hb.cell (p := ⟨b, off, none⟩) bl).trans HY.out
  clear hW b0 hb
  go_upto_region 3 with (fail)
  go_wp2_with fail
  refine (lastAny W (some ⟨b, off, none⟩) (0 + 1) cap (.int .i32 x) (by omega)).mono ?_
  rintro e w1 ⟨rfl, rfl⟩
  have e5 : ((0 + 1 : Nat) : Int) - 1 = 0 := by omega
  rw [e5]
  clear e5
  go_wp2_with fail
  refine (withoutFirst (.slice (some ⟨b, off, none⟩) (0 + 1) cap) y ys (by exact tail_in HT.out HB.out) (by rw [HN.out]; omega)).mono ?_
  rintro e w3 ⟨hw3, v', rfl, t3, ho⟩
  subst hw3
  obtain ⟨t3, hw3, l3, n3⟩ := take_mid HT.out HB.out t3 ho
  have b3 := HB0.out
  clear ho
  have c0 := b3.c0
  have c1 := b3.c1
  have f0 := b3.f
  have r := b3.set2 2 y
  have r0 := r.c0
  have r1 := r.c1
  have HE := Lib.hid (did_mk (c := 2) (x := y) t3 hw3 l3 n3)
  clear b3 t3 hw3 l3 n3 r cy
  go_wp2
  exact bodyPost_ret (v := .tuple #[v', .agg #[.int .u8 2, .int .i32 y]]) (by simp [results, Try.results36, go_sem, r0, r1]) rfl HE.out
end

end Go.Proofs.Ytejnadokjnfagaa
