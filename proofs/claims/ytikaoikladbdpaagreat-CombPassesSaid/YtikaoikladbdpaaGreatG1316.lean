/-
  A deque in a walk: what becomes of it, of boxes and of lists beside it, between the calls. Conditions: none; no Go function is walked here. What Copy of package ring does, at every deque and at nil. Conditions: a deque as Rng says. What Do of package ring does, at every deque and at nil: what an operation is told, and what becomes of the items. Conditions: a deque as Rng says; a kind of 0 to 255. The calls of package ring where one deque is looked at; the example that every statement asks ('known'); what reaperref04.Same tells of equal lists. Conditions: a deque as Rng1 says; lists of at most a thousand. How wide an int is, and its zero. Conditions: none. A line of pushes that wait, in plain lists: what becomes of it by each operation, which push a pop meets, and codes. Conditions: none; no Go function is looked at here. Rows of numbers and of what is told, in blocks of one's own, and boxes that hold them; whom the first operations meet, and codes, in rows. Conditions: none; no Go function is looked at here. A row of what is told, in a block of one's own: codes and values. Conditions: none; no Go function is looked at here. What Spared of package match answers; equality of numbers and of codes; the chapter's example holds. Conditions: operations that lie in memory, at most a million; lists of at most a thousand. What Pairs of package match answers. Conditions: operations that lie in memory, at most a million. MatchFront: the walk. Conditions: arguments as they came in. The document's stack of places, in plain lists: those that were there are -1; three rows of one's own side by side. Conditions: none; no Go function is looked at here. What reaperref09.Pairs and reaperref09.Spared answer. Conditions: operations that lie in memory, at most a thousand. MatchPairs: the walk. Conditions: arguments as they came in. Who was met, how many meet at most, and which item a pop takes that meets nobody, in plain lists; a row of bools in a block of one's own. Conditions: none; no Go function is looked at here. A batch at a deque, in plain lists: what one by one makes of the items, and what each is told; and that a deque to which only those come that meet nobody says the same. Conditions: none; no Go function is looked at here.
-/
import Derived.Test.YtikaoikladbdpaaGreatG1216
import Derived.Deep.CutRange
import Derived.Deep.CutBlock
namespace Go.Proofs.YtikaoikladbdpaaGreat.D10
open Go.RowKit

section
variable {w : World} {g : Nat} {c x : Int}
end

section
variable {w W w1 : World} {F : Nat → Prop} {p : Nat} {most : Int} {zs : List Int}

theorem Did.boxed (hF : ∀ g, F g → g < w.heap.size) (hb : Below w.heap.size w W) (d : Did F p most zs W w1) {g : Nat} (hg : w.heap.size ≤ g) (hl : g < W.heap.size) :
    w1.heap[g]? = W.heap[g]? ∧ ∀ a b, Did F p most zs w ((w1.setCell ⟨g, 0, none⟩ a).setCell ⟨g, 1, none⟩ b) := by
  obtain ⟨F', s, wr, l⟩ := d
  have hn : ¬ F g := fun e => by have := hF g e; omega
  have hn' : ¬ F' g := fun e => by
    rcases l g e with h | h
    · exact hn h
    · omega
  refine ⟨wr.block g hl hn, fun a b => ⟨F', ?_, ?_, ?_⟩⟩
  · exact s.apart (((Wrote.refl (fun k => k = g) w1).setCell (q := ⟨g, 0, none⟩) (.inr rfl) a).setCell (q := ⟨g, 1, none⟩) (.inr rfl) b) (fun k h1 h2 => hn' (by subst h2; exact h1))
  · exact (((Wrote.of hb F).trans wr).setCell (q := ⟨g, 0, none⟩) (.inl hg) a).setCell (q := ⟨g, 1, none⟩) (.inl hg) b
  · intro k hk
    rcases l k hk with h | h
    · exact .inl h
    · exact .inr (Nat.le_trans hb.size h)

theorem boxed1 (w : World) : ∀ W, w.alloc (.cells #[.int .u8 0, .int .i32 0] 74) = W → RBox W w.heap.size 0 0 ∧ Below w.heap.size w W := by
  rintro W rfl
  exact ⟨heap_alloc_new w _, (Below.refl _ _).alloc (Nat.le_refl _) _⟩

end

def At (w : World) (F : Nat → Prop) (p : Nat) (most : Int) (zs : List Int) (wr : World) : Prop := Rng wr F p most zs ∧ Below w.heap.size w wr ∧ ∀ g, F g → w.heap.size ≤ g

section
variable {w a b : World} {F G : Nat → Prop} {p : Nat} {most : Int} {zs zs' : List Int}
end

section
variable {w a b : World} {F G : Nat → Prop} {p : Nat} {most : Int} {zs : List Int}
end

theorem putTrue (w : World) : Calls Tryz.prog 188 #[.bool true] w fun e w' => e = .returned (.agg #[.int .u8 1, .int .i32 0]) ∧ Below w.heap.size w w' := by
  go_enter Tryz.func188, Tryz.ntmps188
  go_wp2
  exact bodyPost_ret (v := .agg #[.int .u8 1, .int .i32 0]) (by simp [results, Tryz.results188, go_sem]) rfl ⟨rfl, by exact (Below.refl _ _).alloc (Nat.le_refl _) _⟩
theorem putFalse (w : World) : Calls Tryz.prog 188 #[.bool false] w fun e w' => e = .returned (.agg #[.int .u8 3, .int .i32 0]) ∧ Below w.heap.size w w' := by
  go_enter Tryz.func188, Tryz.ntmps188
  go_wp2
  exact bodyPost_ret (v := .agg #[.int .u8 3, .int .i32 0]) (by simp [results, Tryz.results188, go_sem]) rfl ⟨rfl, by exact (Below.refl _ _).alloc (Nat.le_refl _) _⟩
theorem takenTrue (w : World) (v : Int) : Calls Tryz.prog 191 #[.int .i32 v, .bool true] w fun e w' => e = .returned (.agg #[.int .u8 2, .int .i32 v]) ∧ Below w.heap.size w w' := by
  go_enter Tryz.func191, Tryz.ntmps191
  go_wp2
  exact bodyPost_ret (v := .agg #[.int .u8 2, .int .i32 v]) (by simp [results, Tryz.results191, go_sem]) rfl ⟨rfl, by exact (Below.refl _ _).alloc (Nat.le_refl _) _⟩
theorem takenFalse (w : World) (v : Int) : Calls Tryz.prog 191 #[.int .i32 v, .bool false] w fun e w' => e = .returned (.agg #[.int .u8 4, .int .i32 0]) ∧ Below w.heap.size w w' := by
  go_enter Tryz.func191, Tryz.ntmps191
  go_wp2
  exact bodyPost_ret (v := .agg #[.int .u8 4, .int .i32 0]) (by simp [results, Tryz.results191, go_sem]) rfl ⟨rfl, by exact (Below.refl _ _).alloc (Nat.le_refl _) _⟩

theorem begunDo (w : World) (k x : Int) : ∀ W, (w.alloc (.cells #[.int .u8 k, .int .i32 x] 38)).alloc (.cells #[.int .u8 0, .int .i32 0] 74) = W →
    W.cell? ⟨w.heap.size, 0, none⟩ = some (.int .u8 k) ∧ W.cell? ⟨w.heap.size, 1, none⟩ = some (.int .i32 x) ∧ RBox W (w.heap.size + 1) 0 0 ∧ Below w.heap.size w W := by
  rintro W rfl
  refine ⟨?_, ?_, ?_, ((Below.refl _ _).alloc (Nat.le_refl _) _).alloc (by simp) _⟩
  · go_simp
  · go_simp
  · unfold RBox
    have := heap_alloc_new (w.alloc (.cells #[.int .u8 k, .int .i32 x] 38)) (.cells #[.int .u8 0, .int .i32 0] 74)
    simpa using this

section
variable {w w1 w2 : World} {F : Nat → Prop} {p : Nat} {most : Int} {zs : List Int}
theorem Did.fresh (d : Did F p most zs w w1) (hb : Below w1.heap.size w1 w2) : Did F p most zs w w2 := by
  obtain ⟨F', s, wr, l⟩ := d
  exact ⟨F', s.fresh hb, wr.trans (Wrote.of hb F), l⟩

set_option maxRecDepth 100000 in
set_option maxHeartbeats 1600000 in
theorem doPushLOk (h : Rng w F p most zs) (x : Int) (hf : (zs.length : Int) < most) :
    Calls Tryz.prog 184 #[.pointer (some ⟨p, 0, none⟩), .agg #[.int .u8 1, .int .i32 x]] w fun e w' => e = .returned (.agg #[.int .u8 1, .int .i32 0]) ∧ Did F p most (x :: zs) w w' := by
  go_enter Tryz.func184, Tryz.ntmps184
  go_upto_region 1 with (fail)
  generalize hW : (w.alloc (.cells #[.int .u8 1, .int .i32 x] 38)).alloc (.cells #[.int .u8 0, .int .i32 0] 74) = W
  obtain ⟨o0, o1, b0, hb⟩ := begunDo w _ _ W hW
  clear hW
  have HX := Lib.hid (fun w1 (d : Did F p most (x :: zs) W w1) => d.boxed h.foot hb (g := w.heap.size + 1) (by omega) b0.lt)
  have HZ := Lib.hid b0
  have H := Lib.hid (h.fresh hb)
  clear h hb b0
  have C := pushLOk H.out x hf
  go_wp2_with fail
  refine C.mono ?_
  clear C
  rintro e w1 ⟨rfl, d⟩
  have HD := Lib.hid d
  clear d o0 o1
  go_wp2_with fail
  refine (putTrue w1).mono ?_
  rintro e w2 ⟨rfl, b2⟩
  obtain ⟨h1, h2⟩ := HX.out w2 (HD.out.fresh b2)
  have b1 : RBox w2 (w.heap.size + 1) 0 0 := h1.trans HZ.out
  have H2 := Lib.hid h2
  clear h1 h2 b2
  have c0 := b1.c0
  have c1 := b1.c1
  have f := b1.f
  have r := b1.set2 1 0
  have r0 := r.c0
  have r1 := r.c1
  clear b1 r
  go_wp2
  exact bodyPost_ret (v := .agg #[.int .u8 1, .int .i32 0]) (by simp [results, Tryz.results184, go_sem, r0, r1]) rfl ⟨rfl, H2.out _ _⟩

set_option maxRecDepth 100000 in
set_option maxHeartbeats 1600000 in
theorem doPushLFull (h : Rng w F p most zs) (x : Int) (hf : ¬ (zs.length : Int) < most) :
    Calls Tryz.prog 184 #[.pointer (some ⟨p, 0, none⟩), .agg #[.int .u8 1, .int .i32 x]] w fun e w' => e = .returned (.agg #[.int .u8 3, .int .i32 0]) ∧ Did F p most zs w w' := by
  go_enter Tryz.func184, Tryz.ntmps184
  go_upto_region 1 with (fail)
  generalize hW : (w.alloc (.cells #[.int .u8 1, .int .i32 x] 38)).alloc (.cells #[.int .u8 0, .int .i32 0] 74) = W
  obtain ⟨o0, o1, b0, hb⟩ := begunDo w _ _ W hW
  clear hW
  have HX := Lib.hid (fun w1 (d : Did F p most zs W w1) => d.boxed h.foot hb (g := w.heap.size + 1) (by omega) b0.lt)
  have HZ := Lib.hid b0
  have H := Lib.hid (h.fresh hb)
  clear h hb b0
  have C := pushLFull H.out x (by omega)
  go_wp2_with fail
  refine C.mono ?_
  clear C
  rintro e w1 ⟨rfl, rfl⟩
  clear o0 o1
  go_wp2_with fail
  refine (putFalse W).mono ?_
  rintro e w2 ⟨rfl, b2⟩
  obtain ⟨h1, h2⟩ := HX.out w2 (H.out.did b2)
  have b1 : RBox w2 (w.heap.size + 1) 0 0 := h1.trans HZ.out
  have H2 := Lib.hid h2
  clear h1 h2 b2
  have c0 := b1.c0
  have c1 := b1.c1
  have f := b1.f
  have r := b1.set2 3 0
  have r0 := r.c0
  have r1 := r.c1
  clear b1 r
  go_wp2
  exact bodyPost_ret (v := .agg #[.int .u8 3, .int .i32 0]) (by simp [results, Tryz.results184, go_sem, r0, r1]) rfl ⟨rfl, H2.out _ _⟩

set_option maxRecDepth 100000 in
set_option maxHeartbeats 1600000 in
theorem doPushROk (h : Rng w F p most zs) (x : Int) (hf : (zs.length : Int) < most) :
    Calls Tryz.prog 184 #[.pointer (some ⟨p, 0, none⟩), .agg #[.int .u8 2, .int .i32 x]] w fun e w' => e = .returned (.agg #[.int .u8 1, .int .i32 0]) ∧ Did F p most (zs ++ [x]) w w' := by
  go_enter Tryz.func184, Tryz.ntmps184
  go_upto_region 1 with (fail)
  generalize hW : (w.alloc (.cells #[.int .u8 2, .int .i32 x] 38)).alloc (.cells #[.int .u8 0, .int .i32 0] 74) = W
  obtain ⟨o0, o1, b0, hb⟩ := begunDo w _ _ W hW
  clear hW
  have HX := Lib.hid (fun w1 (d : Did F p most (zs ++ [x]) W w1) => d.boxed h.foot hb (g := w.heap.size + 1) (by omega) b0.lt)
  have HZ := Lib.hid b0
  have H := Lib.hid (h.fresh hb)
  clear h hb b0
  have C := pushROk H.out x hf
  go_wp2_with fail
  refine C.mono ?_
  clear C
  rintro e w1 ⟨rfl, d⟩
  have HD := Lib.hid d
  clear d o0 o1
  go_wp2_with fail
  refine (putTrue w1).mono ?_
  rintro e w2 ⟨rfl, b2⟩
  obtain ⟨h1, h2⟩ := HX.out w2 (HD.out.fresh b2)
  have b1 : RBox w2 (w.heap.size + 1) 0 0 := h1.trans HZ.out
  have H2 := Lib.hid h2
  clear h1 h2 b2
  have c0 := b1.c0
  have c1 := b1.c1
  have f := b1.f
  have r := b1.set2 1 0
  have r0 := r.c0
  have r1 := r.c1
  clear b1 r
  go_wp2
  exact bodyPost_ret (v := .agg #[.int .u8 1, .int .i32 0]) (by simp [results, Tryz.results184, go_sem, r0, r1]) rfl ⟨rfl, H2.out _ _⟩

set_option maxRecDepth 100000 in
set_option maxHeartbeats 1600000 in
theorem doPushRFull (h : Rng w F p most zs) (x : Int) (hf : ¬ (zs.length : Int) < most) :
    Calls Tryz.prog 184 #[.pointer (some ⟨p, 0, none⟩), .agg #[.int .u8 2, .int .i32 x]] w fun e w' => e = .returned (.agg #[.int .u8 3, .int .i32 0]) ∧ Did F p most zs w w' := by
  go_enter Tryz.func184, Tryz.ntmps184
  go_upto_region 1 with (fail)
  generalize hW : (w.alloc (.cells #[.int .u8 2, .int .i32 x] 38)).alloc (.cells #[.int .u8 0, .int .i32 0] 74) = W
  obtain ⟨o0, o1, b0, hb⟩ := begunDo w _ _ W hW
  clear hW
  have HX := Lib.hid (fun w1 (d : Did F p most zs W w1) => d.boxed h.foot hb (g := w.heap.size + 1) (by omega) b0.lt)
  have HZ := Lib.hid b0
  have H := Lib.hid (h.fresh hb)
  clear h hb b0
  have C := pushRFull H.out x (by omega)
  go_wp2_with fail
  refine C.mono ?_
  clear C
  rintro e w1 ⟨rfl, rfl⟩
  clear o0 o1
  go_wp2_with fail
  refine (putFalse W).mono ?_
  rintro e w2 ⟨rfl, b2⟩
  obtain ⟨h1, h2⟩ := HX.out w2 (H.out.did b2)
  have b1 : RBox w2 (w.heap.size + 1) 0 0 := h1.trans HZ.out
  have H2 := Lib.hid h2
  clear h1 h2 b2
  have c0 := b1.c0
  have c1 := b1.c1
  have f := b1.f
  have r := b1.set2 3 0
  have r0 := r.c0
  have r1 := r.c1
  clear b1 r
  go_wp2
  exact bodyPost_ret (v := .agg #[.int .u8 3, .int .i32 0]) (by simp [results, Tryz.results184, go_sem, r0, r1]) rfl ⟨rfl, H2.out _ _⟩

set_option maxRecDepth 100000 in
set_option maxHeartbeats 1600000 in
theorem doPopLOk (z : Int) (h : Rng w F p most (z :: zs)) (x : Int) :
    Calls Tryz.prog 184 #[.pointer (some ⟨p, 0, none⟩), .agg #[.int .u8 3, .int .i32 x]] w fun e w' => e = .returned (.agg #[.int .u8 2, .int .i32 z]) ∧ Did F p most zs w w' := by
  go_enter Tryz.func184, Tryz.ntmps184
  go_upto_region 1 with (fail)
  generalize hW : (w.alloc (.cells #[.int .u8 3, .int .i32 x] 38)).alloc (.cells #[.int .u8 0, .int .i32 0] 74) = W
  obtain ⟨o0, o1, b0, hb⟩ := begunDo w _ _ W hW
  clear hW
  have HX := Lib.hid (fun w1 (d : Did F p most zs W w1) => d.boxed h.foot hb (g := w.heap.size + 1) (by omega) b0.lt)
  have HZ := Lib.hid b0
  have H := Lib.hid (h.fresh hb)
  clear h hb b0
  have C := popLOk z H.out
  go_wp2_with fail
  refine C.mono ?_
  clear C
  rintro e w1 ⟨rfl, d⟩
  have HD := Lib.hid d
  clear d o0 o1
  go_wp2_with fail
  refine (takenTrue w1 z).mono ?_
  rintro e w2 ⟨rfl, b2⟩
  obtain ⟨h1, h2⟩ := HX.out w2 (HD.out.fresh b2)
  have b1 : RBox w2 (w.heap.size + 1) 0 0 := h1.trans HZ.out
  have H2 := Lib.hid h2
  clear h1 h2 b2
  have c0 := b1.c0
  have c1 := b1.c1
  have f := b1.f
  have r := b1.set2 2 z
  have r0 := r.c0
  have r1 := r.c1
  clear b1 r
  go_wp2
  exact bodyPost_ret (v := .agg #[.int .u8 2, .int .i32 z]) (by simp [results, Tryz.results184, go_sem, r0, r1]) rfl ⟨rfl, H2.out _ _⟩

set_option maxRecDepth 100000 in
set_option maxHeartbeats 1600000 in
theorem doPopLNone (h : Rng w F p most []) (x : Int) :
    Calls Tryz.prog 184 #[.pointer (some ⟨p, 0, none⟩), .agg #[.int .u8 3, .int .i32 x]] w fun e w' => e = .returned (.agg #[.int .u8 4, .int .i32 0]) ∧ Did F p most [] w w' := by
  go_enter Tryz.func184, Tryz.ntmps184
  go_upto_region 1 with (fail)
  generalize hW : (w.alloc (.cells #[.int .u8 3, .int .i32 x] 38)).alloc (.cells #[.int .u8 0, .int .i32 0] 74) = W
  obtain ⟨o0, o1, b0, hb⟩ := begunDo w _ _ W hW
  clear hW
  have HX := Lib.hid (fun w1 (d : Did F p most [] W w1) => d.boxed h.foot hb (g := w.heap.size + 1) (by omega) b0.lt)
  have HZ := Lib.hid b0
  have H := Lib.hid (h.fresh hb)
  clear h hb b0
  have C := popLNone H.out
  go_wp2_with fail
  refine C.mono ?_
  clear C
  rintro e w1 ⟨rfl, rfl⟩
  clear o0 o1
  go_wp2_with fail
  refine (takenFalse W 0).mono ?_
  rintro e w2 ⟨rfl, b2⟩
  obtain ⟨h1, h2⟩ := HX.out w2 (H.out.did b2)
  have b1 : RBox w2 (w.heap.size + 1) 0 0 := h1.trans HZ.out
  have H2 := Lib.hid h2
  clear h1 h2 b2
  have c0 := b1.c0
  have c1 := b1.c1
  have f := b1.f
  have r := b1.set2 4 0
  have r0 := r.c0
  have r1 := r.c1
  clear b1 r
  go_wp2
  exact bodyPost_ret (v := .agg #[.int .u8 4, .int .i32 0]) (by simp [results, Tryz.results184, go_sem, r0, r1]) rfl ⟨rfl, H2.out _ _⟩

set_option maxRecDepth 100000 in
set_option maxHeartbeats 1600000 in
theorem doPopROk (z : Int) (h : Rng w F p most (zs ++ [z])) (x : Int) :
    Calls Tryz.prog 184 #[.pointer (some ⟨p, 0, none⟩), .agg #[.int .u8 4, .int .i32 x]] w fun e w' => e = .returned (.agg #[.int .u8 2, .int .i32 z]) ∧ Did F p most zs w w' := by
  go_enter Tryz.func184, Tryz.ntmps184
  go_upto_region 1 with (fail)
  generalize hW : (w.alloc (.cells #[.int .u8 4, .int .i32 x] 38)).alloc (.cells #[.int .u8 0, .int .i32 0] 74) = W
  obtain ⟨o0, o1, b0, hb⟩ := begunDo w _ _ W hW
  clear hW
  have HX := Lib.hid (fun w1 (d : Did F p most zs W w1) => d.boxed h.foot hb (g := w.heap.size + 1) (by omega) b0.lt)
  have HZ := Lib.hid b0
  have H := Lib.hid (h.fresh hb)
  clear h hb b0
  have C := popROk z H.out
  go_wp2_with fail
  refine C.mono ?_
  clear C
  rintro e w1 ⟨rfl, d⟩
  have HD := Lib.hid d
  clear d o0 o1
  go_wp2_with fail
  refine (takenTrue w1 z).mono ?_
  rintro e w2 ⟨rfl, b2⟩
  obtain ⟨h1, h2⟩ := HX.out w2 (HD.out.fresh b2)
  have b1 : RBox w2 (w.heap.size + 1) 0 0 := h1.trans HZ.out
  have H2 := Lib.hid h2
  clear h1 h2 b2
  have c0 := b1.c0
  have c1 := b1.c1
  have f := b1.f
  have r := b1.set2 2 z
  have r0 := r.c0
  have r1 := r.c1
  clear b1 r
  go_wp2
  exact bodyPost_ret (v := .agg #[.int .u8 2, .int .i32 z]) (by simp [results, Tryz.results184, go_sem, r0, r1]) rfl ⟨rfl, H2.out _ _⟩

set_option maxRecDepth 100000 in
set_option maxHeartbeats 1600000 in
theorem doPopRNone (h : Rng w F p most []) (x : Int) :
    Calls Tryz.prog 184 #[.pointer (some ⟨p, 0, none⟩), .agg #[.int .u8 4, .int .i32 x]] w fun e w' => e = .returned (.agg #[.int .u8 4, .int .i32 0]) ∧ Did F p most [] w w' := by
  go_enter Tryz.func184, Tryz.ntmps184
  go_upto_region 1 with (fail)
  generalize hW : (w.alloc (.cells #[.int .u8 4, .int .i32 x] 38)).alloc (.cells #[.int .u8 0, .int .i32 0] 74) = W
  obtain ⟨o0, o1, b0, hb⟩ := begunDo w _ _ W hW
  clear hW
  have HX := Lib.hid (fun w1 (d : Did F p most [] W w1) => d.boxed h.foot hb (g := w.heap.size + 1) (by omega) b0.lt)
  have HZ := Lib.hid b0
  have H := Lib.hid (h.fresh hb)
  clear h hb b0
  have C := popRNone H.out
  go_wp2_with fail
  refine C.mono ?_
  clear C
  rintro e w1 ⟨rfl, rfl⟩
  clear o0 o1
  go_wp2_with fail
  refine (takenFalse W 0).mono ?_
  rintro e w2 ⟨rfl, b2⟩
  obtain ⟨h1, h2⟩ := HX.out w2 (H.out.did b2)
  have b1 : RBox w2 (w.heap.size + 1) 0 0 := h1.trans HZ.out
  have H2 := Lib.hid h2
  clear h1 h2 b2
  have c0 := b1.c0
  have c1 := b1.c1
  have f := b1.f
  have r := b1.set2 4 0
  have r0 := r.c0
  have r1 := r.c1
  clear b1 r
  go_wp2
  exact bodyPost_ret (v := .agg #[.int .u8 4, .int .i32 0]) (by simp [results, Tryz.results184, go_sem, r0, r1]) rfl ⟨rfl, H2.out _ _⟩

set_option maxRecDepth 100000 in
set_option maxHeartbeats 1600000 in
theorem doBad (h : Rng w F p most zs) (x : Int) (k : Int) (n1 : k ≠ 1) (n2 : k ≠ 2) (n3 : k ≠ 3) (n4 : k ≠ 4) :
    Calls Tryz.prog 184 #[.pointer (some ⟨p, 0, none⟩), .agg #[.int .u8 k, .int .i32 x]] w fun e w' => e = .returned (.agg #[.int .u8 5, .int .i32 0]) ∧ Did F p most zs w w' := by
  have d1 : (k == (1 : Int)) = false := beq_eq_false_iff_ne.2 n1
  have d2 : (k == (2 : Int)) = false := beq_eq_false_iff_ne.2 n2
  have d3 : (k == (3 : Int)) = false := beq_eq_false_iff_ne.2 n3
  have d4 : (k == (4 : Int)) = false := beq_eq_false_iff_ne.2 n4
  clear n1 n2 n3 n4
  go_enter Tryz.func184, Tryz.ntmps184
  go_upto_region 1 with (fail)
  generalize hW : (w.alloc (.cells #[.int .u8 k, .int .i32 x] 38)).alloc (.cells #[.int .u8 0, .int .i32 0] 74) = W
  obtain ⟨o0, o1, b0, hb⟩ := begunDo w _ _ W hW
  clear hW
  have HX := Lib.hid (fun w1 (d : Did F p most zs W w1) => d.boxed h.foot hb (g := w.heap.size + 1) (by omega) b0.lt)
  have HZ := Lib.hid b0
  have H := Lib.hid (h.fresh hb)
  clear h hb b0
  obtain ⟨h1, h2⟩ := HX.out W (H.out.did (Below.refl _ _))
  have b1 := HZ.out
  have H2 := Lib.hid h2
  clear h1 h2
  have c0 := b1.c0
  have c1 := b1.c1
  have f := b1.f
  have r := b1.set2 5 0
  have r0 := r.c0
  have r1 := r.c1
  clear b1 r
  go_wp2
  exact bodyPost_ret (v := .agg #[.int .u8 5, .int .i32 0]) (by simp [results, Tryz.results184, go_sem, r0, r1]) rfl ⟨rfl, H2.out _ _⟩

theorem doAny (h : Rng w F p most zs) (k x : Int) :
    Calls Tryz.prog 184 #[.pointer (some ⟨p, 0, none⟩), .agg #[.int .u8 k, .int .i32 x]] w fun e w' => e = .returned (.agg #[.int .u8 (dqC most zs k), .int .i32 (dqV zs k)]) ∧ Did F p most (dqL most zs k x) w w' := by
  by_cases h1 : k = 1
  · subst h1
    by_cases hf : (zs.length : Int) < most
    · exact (doPushLOk h x hf).mono fun _ _ ⟨a, b⟩ => ⟨by simpa [dqC, dqV, hf] using a, by simpa [dqL, hf] using b⟩
    · exact (doPushLFull h x hf).mono fun _ _ ⟨a, b⟩ => ⟨by simpa [dqC, dqV, hf] using a, by simpa [dqL, hf] using b⟩
  by_cases h2 : k = 2
  · subst h2
    by_cases hf : (zs.length : Int) < most
    · exact (doPushROk h x hf).mono fun _ _ ⟨a, b⟩ => ⟨by simpa [dqC, dqV, hf] using a, by simpa [dqL, hf] using b⟩
    · exact (doPushRFull h x hf).mono fun _ _ ⟨a, b⟩ => ⟨by simpa [dqC, dqV, hf] using a, by simpa [dqL, hf] using b⟩
  by_cases h3 : k = 3
  · subst h3
    cases zs with
    | nil => exact (doPopLNone h x).mono fun _ _ ⟨a, b⟩ => ⟨by simpa [dqC, dqV] using a, by simpa [dqL] using b⟩
    | cons z zs => exact (doPopLOk z h x).mono fun _ _ ⟨a, b⟩ => ⟨by simpa [dqC, dqV] using a, by simpa [dqL] using b⟩
  by_cases h4 : k = 4
  · subst h4
    rcases List.eq_nil_or_concat zs with rfl | ⟨ys, y, rfl⟩
    · exact (doPopRNone h x).mono fun _ _ ⟨a, b⟩ => ⟨by simpa [dqC, dqV] using a, by simpa [dqL] using b⟩
    · rw [List.concat_eq_append] at h ⊢
      exact (doPopROk y h x).mono fun _ _ ⟨a, b⟩ => ⟨by simpa [dqC, dqV] using a, by simpa [dqL] using b⟩
  exact (doBad h x k h1 h2 h3 h4).mono fun _ _ ⟨a, b⟩ => ⟨by simpa [dqC, dqV, h1, h2, h3, h4] using a, by simpa [dqL, h1, h2, h3, h4] using b⟩
end

def Rng1 (w : World) (B p : Nat) (most : Int) (zs : List Int) : Prop := ∃ F, Rng w F p most zs ∧ ∀ g, F g → B ≤ g

section
variable {w w' : World} {F : Nat → Prop} {B p : Nat} {most : Int} {zs : List Int}

theorem items1 (h : Rng1 w B p most zs) : Calls Tryz.prog 176 #[.pointer (some ⟨p, 0, none⟩)] w (Told w zs) := by
  obtain ⟨F, s, _⟩ := h; exact itemsAny s
end

end Go.Proofs.YtikaoikladbdpaaGreat.D10
namespace Go.Proofs.YtikaoikladbdpaaGreat.D10
theorem infoI : (Tryz.prog.info? 3).map (fun i => (i.zero, i.size, i.bytes)) = some (some (.int .i64 0), 1, 8) := by kernel_rfl
end Go.Proofs.YtikaoikladbdpaaGreat.D10
namespace Go.Proofs.YtikaoikladbdpaaGreat.D10
open Go.RowKit

def lineStep (most : Int) (s : Int × List Int) (k kind : Int) : Int × List Int :=
  if kind = 1 then (if s.1 + s.2.length < most then (s.1, s.2 ++ [k]) else s)
  else if kind = 2 then (if s.2 = [] then (if 0 < s.1 then (s.1 - 1, []) else s) else (s.1, s.2.dropLast))
  else s
def lineAt (most there : Int) (ks : Nat → Int) : Nat → Int × List Int
  | 0 => (there, [])
  | k + 1 => lineStep most (lineAt most there ks k) k (ks k)
def lineC (most : Int) (s : Int × List Int) (kind : Int) : Int :=
  if kind = 1 then (if s.1 + s.2.length < most then 1 else 3)
  else if kind = 2 then (if s.2 = [] then (if 0 < s.1 then 2 else 4) else 2)
  else 5
section
variable {most there : Int} {ks : Nat → Int} {n k : Nat}
structure LineOk (most there : Int) (k : Nat) (s : Int × List Int) : Prop where
  low : 0 ≤ s.1
  high : s.1 ≤ there
  room : s.1 + s.2.length ≤ most
  places : ∀ j ∈ s.2, 0 ≤ j ∧ j < k

theorem lineStep_ok {s : Int × List Int} (h : LineOk most there k s) (kind : Int) : LineOk most there (k + 1) (lineStep most s k kind) := by
  obtain ⟨h1, h2, h3, h4⟩ := h
  have up : ∀ j ∈ s.2, 0 ≤ j ∧ j < ((k + 1 : Nat) : Int) := fun j hj => by have := h4 j hj; omega
  unfold lineStep
  split
  · split
    · refine ⟨h1, h2, by simp; omega, fun j hj => ?_⟩
      simp only [List.mem_append, List.mem_singleton] at hj
      rcases hj with hj | rfl
      · exact up j hj
      · omega
    · exact ⟨h1, h2, h3, up⟩
  · split
    · split
      · split
        · refine ⟨by omega, by omega, ?_, fun j hj => by simp at hj⟩
          simp; omega
        · exact ⟨h1, h2, h3, up⟩
      · refine ⟨h1, h2, ?_, fun j hj => up j (List.dropLast_subset _ hj)⟩
        simp only [List.length_dropLast]; omega
    · exact ⟨h1, h2, h3, up⟩
theorem lineAt_ok (h0 : 0 ≤ there) (h1 : there ≤ most) (ks : Nat → Int) : ∀ k, LineOk most there k (lineAt most there ks k)
  | 0 => ⟨h0, Int.le_refl _, by simpa [lineAt] using h1, fun j hj => by simp [lineAt] at hj⟩
  | k + 1 => by
    have h := lineStep_ok (lineAt_ok h0 h1 ks k) (ks k)
    simpa [lineAt] using h

end

section
variable {w w' : World} {b : Nat} {k : IntKind} {t : TypeId} {xs : List Int}
end

def SBx (w : World) (B : Nat) (t : TypeId) (b n : Nat) : Prop := w.heap[B]? = some (.cells #[.slice (some ⟨b, 0, none⟩) n n] t (0, 0))
section
variable {w w' : World} {B b n : Nat} {t : TypeId}
theorem SBx.lt (h : SBx w B t b n) : B < w.heap.size := lt_of_block h
theorem SBx.keep (h : SBx w B t b n) (hb : w'.heap[B]? = w.heap[B]?) : SBx w' B t b n := hb.trans h
theorem SBx.cell (h : SBx w B t b n) : w.cell? ⟨B, 0, none⟩ = some (.slice (some ⟨b, 0, none⟩) n n) := by unfold SBx at h; simp [World.cell?, h]
theorem SBx.new (w : World) (t : TypeId) (b n : Nat) : SBx (w.alloc (.cells #[.slice (some ⟨b, 0, none⟩) n n] t)) w.heap.size t b n := heap_alloc_new w _
end

section
variable {most there : Int} {ks : Nat → Int} {n k : Nat}
end

def haveOf (x m : Int) : Int := if x < 0 then 0 else if m < x then m else x
theorem haveOf_in (x m : Int) (hm : 0 ≤ m) : 0 ≤ haveOf x m ∧ haveOf x m ≤ m := by unfold haveOf; split <;> (try split) <;> omega

def kindsOf (os : List (Int × Int)) (k : Nat) : Int := (os.getD k (0, 0)).1

section
variable {w w' : World} {b i : Nat} {rs : List (Int × Int)}
end

theorem infoU8 : (Tryz.prog.info? 5).map (fun i => (i.zero, i.size, i.bytes)) = some (some (.int .u8 0), 1, 1) := by kernel_rfl

theorem haveOf_cases (x m : Int) (hm : 0 ≤ m) : ((x < 0 ∧ m = 0) ∧ haveOf x m = 0) ∨ ((x < 0 ∧ 0 < m) ∧ haveOf x m = 0) ∨ ((x = 0 ∧ m = 0) ∧ haveOf x m = 0) ∨ ((x = 0 ∧ 0 < m) ∧ haveOf x m = 0) ∨ ((0 < x ∧ x < m) ∧ haveOf x m = x) ∨ ((0 < x ∧ x = m) ∧ haveOf x m = x) ∨ ((0 < m ∧ m < x) ∧ haveOf x m = m) ∨ ((m = 0 ∧ 0 < x) ∧ haveOf x m = 0) := by
  unfold haveOf
  rcases (show (x < 0 ∧ m = 0) ∨ (x < 0 ∧ 0 < m) ∨ (x = 0 ∧ m = 0) ∨ (x = 0 ∧ 0 < m) ∨ (0 < x ∧ x < m) ∨ (0 < x ∧ x = m) ∨ (0 < m ∧ m < x) ∨ (m = 0 ∧ 0 < x) from by omega) with h | h | h | h | h | h | h | h
  · left; exact ⟨h, if_pos h.1⟩
  · right; left; exact ⟨h, if_pos h.1⟩
  · right; right; left; exact ⟨h, by rw [if_neg (by omega), if_neg (by omega)]; exact h.1⟩
  · right; right; right; left; exact ⟨h, by rw [if_neg (by omega), if_neg (by omega)]; exact h.1⟩
  · right; right; right; right; left; exact ⟨h, by rw [if_neg (by omega), if_neg (by omega)]⟩
  · right; right; right; right; right; left; exact ⟨h, by rw [if_neg (by omega), if_neg (by omega)]⟩
  · right; right; right; right; right; right; left; exact ⟨h, by rw [if_neg (by omega), if_pos h.2]⟩
  · right; right; right; right; right; right; right; exact ⟨h, by rw [if_neg (by omega), if_pos (by omega)]; exact h.1⟩

theorem mostOf_cases (m : Int) : (m < 0 ∧ mostOf m = 0) ∨ (m = 0 ∧ mostOf m = 0) ∨ ((0 < m ∧ m < 1000) ∧ mostOf m = m) ∨ (m = 1000 ∧ mostOf m = 1000) ∨ (1000 < m ∧ mostOf m = 1000) := by
  unfold mostOf
  rcases (show m < 0 ∨ m = 0 ∨ (0 < m ∧ m < 1000) ∨ m = 1000 ∨ 1000 < m from by omega) with h | h | h | h | h
  · left; exact ⟨h, if_pos h⟩
  · subst h; right; left; exact ⟨rfl, rfl⟩
  · right; right; left; exact ⟨h, by rw [if_neg (by omega), if_neg (by omega)]⟩
  · subst h; right; right; right; left; exact ⟨rfl, rfl⟩
  · right; right; right; right; exact ⟨h, by rw [if_neg (by omega), if_pos h]⟩

section
variable {most there t : Int} {ps : List Int} {k kind : Int}
end

def Off2 (v v' : Value) : Prop := ∀ g, v.ownBlock = some g → v'.ownBlock ≠ some g
structure R3 (B : Nat) (w0 : World) (v1 v2 v3 : Value) (l1 l2 l3 : List Int) (W : World) : Prop where
  o1 : W.ownsRow B 3 1 v1 l1.length (l1.map (Value.int .i64))
  o2 : W.ownsRow B 3 1 v2 l2.length (l2.map (Value.int .i64))
  o3 : W.ownsRow B 5 1 v3 l3.length (l3.map (Value.int .u8))
  d12 : Off2 v1 v2
  d13 : Off2 v1 v3
  d23 : Off2 v2 v3
  b : Below B w0 W
  s : B ≤ W.heap.size

section
variable {B : Nat} {w0 W W' : World} {v1 v2 v3 v' : Value} {l1 l2 l3 : List Int} {x : Int} {o : Obj}
end

section
variable {most there : Int} {ks : Nat → Int} {n : Nat}
end

def BRw (w : World) (b : Nat) (bs : List Bool) : Prop := w.heap[b]? = some (.cells (bs.map Value.bool).toArray 4 (0, 0))
section
variable {w w' : World} {b : Nat} {bs : List Bool}
theorem BRw.lt (h : BRw w b bs) : b < w.heap.size := lt_of_block h
theorem BRw.keep (h : BRw w b bs) (hb : w'.heap[b]? = w.heap[b]?) : BRw w' b bs := hb.trans h
theorem BRw.free (h : BRw w b bs) (j : Nat) : w.frozen? ⟨b, j, none⟩ = false := by unfold BRw at h; simp [World.frozen?, h]
theorem BRw.cell (h : BRw w b bs) {i : Nat} (hi : i < bs.length) : w.cell? ⟨b, i, none⟩ = some (.bool (bs.getD i false)) := by
  unfold BRw at h
  simp [World.cell?, h, List.getD, hi]
theorem BRw.set (h : BRw w b bs) (i : Nat) (x : Bool) : BRw (w.setCell ⟨b, i, none⟩ (.bool x)) b (bs.set i x) := by
  unfold BRw at h ⊢
  rw [heap_setCell_same w b i _ _ _ h]
  simp
end
theorem madeBools {w w1 : World} {n : Nat} (ho : w1.ownsRow w.heap.size 4 1 (.slice (some ⟨w.heap.size, 0, none⟩) n n) n (madeCells (Value.bool false).cells (n * 1)).toList) (hg : w.grownBy w1 none) :
    BRw w1 w.heap.size (List.replicate n false) ∧ Below w.heap.size w w1 := by
  have hr := rowWhole ho
  rw [show (Value.bool false).cells = #[Value.bool false] from rfl, Nat.mul_one, toList_madeCells_one] at hr
  exact ⟨by unfold BRw; rw [hr]; simp, (Below.refl _ _).grown hg (Nat.le_refl _) (by simp)⟩

end Go.Proofs.YtikaoikladbdpaaGreat.D10
namespace Go.Proofs.YtikaoikladbdpaaGreat.D10

def valOf (os : List (Int × Int)) (j : Int) : Int := (os.getD j.toNat (0, 0)).2
def itA (most : Int) (zs : List Int) (os : List (Int × Int)) : Nat → List Int
  | 0 => zs
  | k + 1 => dqL most (itA most zs os k) (kindsOf os k) (valOf os k)
def cdA (most : Int) (zs : List Int) (os : List (Int × Int)) (k : Nat) : Int := dqC most (itA most zs os k) (kindsOf os k)
def vlA (most : Int) (zs : List Int) (os : List (Int × Int)) (k : Nat) : Int := dqV (itA most zs os k) (kindsOf os k)
def resL (most : Int) (zs : List Int) (os : List (Int × Int)) (k : Nat) : List (Int × Int) := (List.range k).map fun i => (cdA most zs os i, vlA most zs os i)
def resK (most : Int) (zs : List Int) (os : List (Int × Int)) (n k : Nat) : List (Int × Int) := resL most zs os k ++ List.replicate (n - k) (0, 0)

section
variable {most : Int} {zs : List Int} {os : List (Int × Int)} {n k : Nat}
theorem resL_length : (resL most zs os k).length = k := by simp [resL]
theorem resK_length (h : k ≤ n) : (resK most zs os n k).length = n := by simp [resK, resL_length]; omega
theorem resL_snoc : resL most zs os (k + 1) = resL most zs os k ++ [(cdA most zs os k, vlA most zs os k)] := by simp [resL, List.range_succ]
theorem resK_all : resK most zs os n n = resL most zs os n := by simp [resK]
theorem resK_none : resK most zs os n 0 = List.replicate n (0, 0) := by simp [resK, resL]
theorem resK_at (h : k < n) : (resK most zs os n k).getD k (0, 0) = (0, 0) := by
  unfold resK
  obtain ⟨d, hd⟩ : ∃ d, n - k = d + 1 := ⟨n - k - 1, by omega⟩
  simp [List.getD, resL_length, hd]
theorem resK_put (h : k < n) : (resK most zs os n k).set k (cdA most zs os k, vlA most zs os k) = resK most zs os n (k + 1) := by
  unfold resK
  rw [List.set_append_right _ _ (by rw [resL_length]; omega), resL_length, Nat.sub_self, show n - k = (n - (k + 1)) + 1 by omega, List.replicate_succ, List.set_cons_zero, resL_snoc]
  simp
def resC (most : Int) (zs : List Int) (os : List (Int × Int)) (n k : Nat) : List (Int × Int) := (resK most zs os n k).set k (cdA most zs os k, 0)
theorem resC_length (h : k ≤ n) : (resC most zs os n k).length = n := by simp [resC, resK_length h]
theorem resC_at (h : k < n) : (resC most zs os n k).getD k (0, 0) = (cdA most zs os k, 0) := by
  unfold resC
  simp [List.getD, resK_length (Nat.le_of_lt h), h]
theorem resC_set (h : k < n) : (resK most zs os n k).set k (cdA most zs os k, ((resK most zs os n k).getD k (0, 0)).2) = resC most zs os n k := by
  rw [resK_at h]; rfl
theorem resC_put (h : k < n) (x y : Int) (hx : x = cdA most zs os k) (hy : y = vlA most zs os k) : (resC most zs os n k).set k (x, y) = resK most zs os n (k + 1) := by
  unfold resC
  rw [List.set_set, hx, hy, resK_put h]
theorem resC_idle (h : k < n) (e : vlA most zs os k = 0) : resC most zs os n k = resK most zs os n (k + 1) := by
  rw [← resK_put h, e]; rfl

def dqG {α : Type} (most : Int) (s : List α) (kind : Int) (x : α) : List α :=
  if kind = 1 then (if (s.length : Int) < most then x :: s else s) else if kind = 2 then (if (s.length : Int) < most then s ++ [x] else s) else if kind = 3 then s.tail else if kind = 4 then s.dropLast else s
theorem dqG_map {α : Type} (f : α → Int) (s : List α) (kind : Int) (x : α) : (dqG most s kind x).map f = dqL most (s.map f) kind (f x) := by
  unfold dqG dqL
  rw [List.length_map]
  repeat' split
  all_goals simp [List.map_tail, List.map_dropLast]

def pzAt (most : Int) (zs : List Int) (os : List (Int × Int)) : Nat → List (Int × Int)
  | 0 => zs.map fun z => (-1, z)
  | k + 1 => dqG most (pzAt most zs os k) (kindsOf os k) ((k : Int), valOf os k)
theorem pz_fst : ∀ k, (pzAt most zs os k).map Prod.fst = dqAt most (olds zs.length) (kindsOf os) k
  | 0 => by simp [pzAt, dqAt, olds, Function.comp_def, List.map_const']
  | k + 1 => by rw [pzAt, dqG_map, pz_fst k, dqAt]
theorem pz_snd : ∀ k, (pzAt most zs os k).map Prod.snd = itA most zs os k
  | 0 => by simp [pzAt, itA, Function.comp_def]
  | k + 1 => by rw [pzAt, dqG_map, pz_snd k, itA]
theorem pz_val : ∀ k, ∀ e ∈ pzAt most zs os k, e.1 ≠ -1 → e.2 = valOf os e.1
  | 0 => fun e he hn => by
    simp only [pzAt, List.mem_map] at he
    obtain ⟨z, _, rfl⟩ := he
    exact absurd rfl hn
  | k + 1 => fun e he hn => by
    have ih := pz_val k
    simp only [pzAt, dqG] at he
    split at he
    · split at he
      · simp only [List.mem_cons] at he
        rcases he with rfl | he
        · rfl
        · exact ih e he hn
      · exact ih e he hn
    · split at he
      · split at he
        · simp only [List.mem_append, List.mem_singleton] at he
          rcases he with he | rfl
          · exact ih e he hn
          · rfl
        · exact ih e he hn
      · split at he
        · exact ih e (List.mem_of_mem_tail he) hn
        · split at he
          · exact ih e (List.dropLast_subset _ he) hn
          · exact ih e he hn
theorem it_length (k : Nat) : (itA most zs os k).length = (dqAt most (olds zs.length) (kindsOf os) k).length := by
  rw [← pz_snd, ← pz_fst, List.length_map, List.length_map]
theorem code_same (k : Nat) : dqC most (dqAt most (olds zs.length) (kindsOf os) k) (kindsOf os k) = cdA most zs os k := by
  have hl := it_length (most := most) (zs := zs) (os := os) k
  have he : dqAt most (olds zs.length) (kindsOf os) k = [] ↔ itA most zs os k = [] := by
    rw [← List.length_eq_zero_iff, ← List.length_eq_zero_iff, hl]
  unfold cdA dqC
  rw [hl]
  by_cases h : itA most zs os k = []
  · rw [if_pos h, if_pos (he.2 h)]
  · rw [if_neg h, if_neg (fun x => h (he.1 x))]
theorem olds_neg (t : Int) : ∀ j ∈ olds t, j < 0 := fun j hj => by
  have := List.eq_of_mem_replicate hj
  omega

def metB (ps : List Int) (j : Int) : Bool := decide (0 ≤ j ∧ j ∈ ps)
theorem metB_old (ps : List Int) : metB ps (-1) = false := by simp [metB]

def psA (most : Int) (zs : List Int) (os : List (Int × Int)) (n : Nat) : List Int := dpL most (olds zs.length) (kindsOf os) n
def ptA (most : Int) (zs : List Int) (os : List (Int × Int)) (k : Nat) : Int := dqP (dqAt most (olds zs.length) (kindsOf os) k) (kindsOf os k)
theorem ptA_in (hz : (zs.length : Int) ≤ most) (k : Nat) : -1 ≤ ptA most zs os k ∧ ptA most zs os k < k :=
  dqP_in (dqAt_ok (olds_ok (by omega) hz) (kindsOf os) k) _
theorem psA_getD (h : k < n) : (psA most zs os n).getD k 0 = ptA most zs os k := dpL_getD h
theorem psA_length : (psA most zs os n).length = n := dpL_length
theorem psA_mem {j : Int} : j ∈ psA most zs os n ↔ ∃ i, i < n ∧ ptA most zs os i = j := by
  simp [psA, dpL, ptA]
theorem metB_of (h : k < n) (hz : (zs.length : Int) ≤ most) (hp : ptA most zs os k ≠ -1) : metB (psA most zs os n) (ptA most zs os k) = true := by
  have := ptA_in (os := os) hz k
  simp only [metB, decide_eq_true_eq]
  exact ⟨by omega, psA_mem.2 ⟨k, h, rfl⟩⟩

def dkA (most : Int) (zs : List Int) (os : List (Int × Int)) (n k : Nat) : List Int := ((pzAt most zs os k).filter fun e => !metB (psA most zs os n) e.1).map Prod.snd
theorem dkA_le (k : Nat) : (dkA most zs os n k).length ≤ (pzAt most zs os k).length := by
  unfold dkA
  rw [List.length_map]
  exact List.length_filter_le _ _
theorem dkA_zero : dkA most zs os n 0 = zs := by
  unfold dkA pzAt
  rw [List.filter_eq_self.2]
  · simp [Function.comp_def]
  · intro e he
    simp only [List.mem_map] at he
    obtain ⟨z, _, rfl⟩ := he
    simp [metB_old]
theorem dkA_all : dkA most zs os n n = itA most zs os n := by
  unfold dkA
  rw [List.filter_eq_self.2, pz_snd]
  intro e he
  simp only [Bool.not_eq_true', metB, decide_eq_false_iff_not, not_and]
  intro h0 hm
  obtain ⟨i, hi, hp⟩ := psA_mem.1 hm
  have hl := met_later (most := most) (ks := kindsOf os) (once_olds zs.length) hi (by show 0 ≤ ptA most zs os i; omega)
  refine hl ?_
  show ptA most zs os i ∈ _
  rw [hp, ← pz_fst]
  exact List.mem_map_of_mem he

theorem stepMeet (hz : (zs.length : Int) ≤ most) (h : k < n) (hp : ptA most zs os k ≠ -1) : dkA most zs os n (k + 1) = dkA most zs os n k ∧ vlA most zs os k = valOf os (ptA most zs os k) := by
  have hm := metB_of h hz hp
  have hv := pz_val (most := most) (zs := zs) (os := os) k
  unfold vlA dkA
  rw [pzAt, ← pz_snd]
  unfold ptA at hp hm ⊢
  rw [← pz_fst] at hp hm ⊢
  generalize pzAt most zs os k = s at *
  generalize psA most zs os n = ps at *
  generalize kindsOf os k = kd at *
  unfold dqP at hp hm ⊢
  unfold dqG dqV
  by_cases h3 : kd = 3
  · subst h3
    simp only [if_true, if_neg (show ¬ (3 : Int) = 1 by omega), if_neg (show ¬ (3 : Int) = 2 by omega)] at *
    cases s with
    | nil => simp at hp
    | cons e l =>
      simp only [List.map_cons, List.headD_cons, List.tail_cons] at *
      exact ⟨by rw [List.filter_cons, hm]; simp, hv e (by simp) hp⟩
  · by_cases h4 : kd = 4
    · subst h4
      simp only [if_true, if_neg (show ¬ (4 : Int) = 1 by omega), if_neg (show ¬ (4 : Int) = 2 by omega), if_neg (show ¬ (4 : Int) = 3 by omega)] at *
      rcases List.eq_nil_or_concat s with x | ⟨l, e, x⟩
      · rw [x] at hp; simp at hp
      · rw [List.concat_eq_append] at x
        subst x
        simp only [List.map_append, List.map_cons, List.map_nil, List.getLastD_concat, List.dropLast_concat] at *
        exact ⟨by rw [List.filter_append, List.filter_cons, hm]; simp, hv e (by simp) hp⟩
    · simp only [if_neg h3, if_neg h4] at hp
      exact absurd rfl hp
theorem stepFull (hc : cdA most zs os k = 3) : dkA most zs os n (k + 1) = dkA most zs os n k ∧ vlA most zs os k = 0 := by
  unfold cdA at hc
  unfold vlA dkA
  rw [pzAt]
  have hl : (itA most zs os k).length = (pzAt most zs os k).length := by rw [← pz_snd, List.length_map]
  unfold dqC at hc
  unfold dqG dqV
  rw [← hl]
  split at hc
  · rename_i hk
    split at hc
    · omega
    · rename_i hf
      rcases hk with hk | hk
      · simp only [hk, if_true, if_neg hf, if_neg (show ¬ (1 : Int) = 3 by omega), if_neg (show ¬ (1 : Int) = 4 by omega), and_self]
      · simp only [hk, if_true, if_neg hf, if_neg (show ¬ (2 : Int) = 1 by omega), if_neg (show ¬ (2 : Int) = 3 by omega), if_neg (show ¬ (2 : Int) = 4 by omega), and_self]
  · split at hc
    · split at hc <;> omega
    · omega
theorem stepMet (hm : metB (psA most zs os n) k = true) : dkA most zs os n (k + 1) = dkA most zs os n k ∧ vlA most zs os k = 0 := by
  have hm' := hm
  simp only [metB, decide_eq_true_eq] at hm'
  obtain ⟨i, hi, hp⟩ := psA_mem.1 hm'.2
  have hin : (k : Int) ∈ dqAt most (olds zs.length) (kindsOf os) i := by
    rw [← hp]
    exact met_in (by show 0 ≤ ptA most zs os i; omega)
  obtain ⟨_, hk, hc⟩ := stood (olds_neg _) (by omega) i hin
  rw [Int.toNat_natCast] at hk hc
  rw [code_same] at hc
  unfold cdA at hc
  unfold vlA dkA
  rw [pzAt]
  have hl : (itA most zs os k).length = (pzAt most zs os k).length := by rw [← pz_snd, List.length_map]
  unfold dqC at hc
  rw [if_pos hk] at hc
  split at hc
  · rename_i hf
    rw [hl] at hf
    unfold dqG dqV
    rcases hk with hk | hk
    · simp only [hk, if_true, if_pos hf, if_neg (show ¬ (1 : Int) = 3 by omega), if_neg (show ¬ (1 : Int) = 4 by omega)]
      rw [List.filter_cons]
      simp [hm]
    · simp only [hk, if_true, if_pos hf, if_neg (show ¬ (2 : Int) = 1 by omega), if_neg (show ¬ (2 : Int) = 3 by omega), if_neg (show ¬ (2 : Int) = 4 by omega)]
      rw [List.filter_append, List.filter_cons]
      simp [hm]
  · omega
theorem stepDo (hp : ptA most zs os k = -1) (hc : cdA most zs os k ≠ 3) (hm : metB (psA most zs os n) k = false) :
    dqL most (dkA most zs os n k) (kindsOf os k) (valOf os k) = dkA most zs os n (k + 1) ∧ dqC most (dkA most zs os n k) (kindsOf os k) = cdA most zs os k ∧ dqV (dkA most zs os n k) (kindsOf os k) = vlA most zs os k := by
  have hle := dkA_le (most := most) (zs := zs) (os := os) (n := n) k
  unfold cdA at hc ⊢
  unfold vlA
  unfold dkA at hle ⊢
  rw [pzAt, ← pz_snd] at *
  unfold ptA at hp
  rw [← pz_fst] at hp
  generalize pzAt most zs os k = s at *
  generalize psA most zs os n = ps at *
  generalize kindsOf os k = kd at *
  generalize valOf os k = v at *
  have ho := metB_old ps
  unfold dqP at hp
  unfold dqC at hc ⊢
  unfold dqG dqV dqL
  by_cases h1 : kd = 1
  · subst h1
    simp only [if_true, true_or, if_neg (show ¬ (1 : Int) = 3 by omega), if_neg (show ¬ (1 : Int) = 4 by omega)] at *
    rw [List.length_map] at hc hle
    have hf : (s.length : Int) < most := by
      refine Classical.byContradiction fun hf => ?_
      rw [if_neg hf] at hc
      exact hc rfl
    have hg : (((s.filter fun e => !metB ps e.1).length : Nat) : Int) < most := by omega
    simp only [List.length_map]
    rw [if_pos hg, if_pos hf, List.filter_cons]
    simp [hm, hf, hg]
  by_cases h2 : kd = 2
  · subst h2
    simp only [if_true, or_true, if_neg (show ¬ (2 : Int) = 1 by omega), if_neg (show ¬ (2 : Int) = 3 by omega), if_neg (show ¬ (2 : Int) = 4 by omega)] at *
    rw [List.length_map] at hc hle
    have hf : (s.length : Int) < most := by
      refine Classical.byContradiction fun hf => ?_
      rw [if_neg hf] at hc
      exact hc rfl
    have hg : (((s.filter fun e => !metB ps e.1).length : Nat) : Int) < most := by omega
    simp only [List.length_map]
    rw [if_pos hg, if_pos hf, List.filter_append, List.filter_cons]
    simp [hm, hf, hg]
  by_cases h3 : kd = 3
  · subst h3
    simp only [if_true, true_or, if_neg (show ¬ (3 : Int) = 1 by omega), if_neg (show ¬ (3 : Int) = 2 by omega), show ¬ ((3 : Int) = 1 ∨ (3 : Int) = 2) by omega, if_false] at *
    cases s with
    | nil => simp
    | cons e l =>
      simp only [List.map_cons, List.headD_cons, List.tail_cons] at *
      rw [List.filter_cons, hp, ho]
      simp
  by_cases h4 : kd = 4
  · subst h4
    simp only [if_true, or_true, if_neg (show ¬ (4 : Int) = 1 by omega), if_neg (show ¬ (4 : Int) = 2 by omega), if_neg (show ¬ (4 : Int) = 3 by omega), show ¬ ((4 : Int) = 1 ∨ (4 : Int) = 2) by omega, if_false] at *
    rcases List.eq_nil_or_concat s with x | ⟨l, e, x⟩
    · rw [x]; simp
    · rw [List.concat_eq_append] at x
      subst x
      simp only [List.map_append, List.map_cons, List.map_nil, List.getLastD_concat, List.dropLast_concat] at *
      rw [List.filter_append, List.filter_cons, hp, ho]
      simp
  · simp only [if_neg h1, if_neg h2, if_neg h3, if_neg h4, show ¬ (kd = 1 ∨ kd = 2) by omega, show ¬ (kd = 3 ∨ kd = 4) by omega, if_false, and_self]
end

end Go.Proofs.YtikaoikladbdpaaGreat.D10
