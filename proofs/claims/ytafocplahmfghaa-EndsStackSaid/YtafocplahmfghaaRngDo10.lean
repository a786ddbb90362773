/-
  A deque in a walk: what becomes of it, of boxes and of lists beside it, between the calls. Conditions: none; no Go function is walked here. What Copy of package ring does, at every deque and at nil. Conditions: a deque as Rng says. What Do of package ring does, at every deque and at nil: what an operation is told, and what becomes of the items. Conditions: a deque as Rng says; a kind of 0 to 255. The calls of package ring where one deque is looked at; the example that every statement asks ('known'); what reaperref04.Same tells of equal lists. Conditions: a deque as Rng1 says; lists of at most a thousand.
-/
import Derived.Test.YtafocplahmfghaaRng10
namespace Go.Proofs.Ytafocplahmfghaa
open Go.RowKit

section
variable {w : World} {g : Nat} {c x : Int}
end

section
variable {w W w1 : World} {F : Nat → Prop} {p : Nat} {most : Int} {zs : List Int}

/-- What stands behind a call on the stack, and a store into a box that was made ahead of it. -/
theorem Did.boxed (hF : ∀ g, F g → g < w.heap.size) (hb : Below w.heap.size w W) (d : Did F p most zs W w1) {g : Nat} (hg : w.heap.size ≤ g) (hl : g < W.heap.size) :
    w1.heap[g]? = W.heap[g]? ∧ ∀ a b, Did F p most zs w ((w1.setCell ⟨g, 0, none⟩ a).setCell ⟨g, 1, none⟩ b) := by
  obtain ⟨F', s, wr, l⟩ := d
  have hn : ¬ F g := fun e => by have := hF g e; omega
  have hn' : ¬ F' g := fun e => by
    rcases l g e with h | h
    · exact hn h
    · omega
  refine ⟨wr.block g hl hn, fun a b => ⟨F', ?_, ?_, ?_⟩⟩
  · exact s.apart (((Wrote.refl (fun k => k = g) w1).setCell (q := ⟨g, 0, none⟩) (.inr rfl) a).setCell (q := ⟨g, 1, none⟩) (.inr rfl) b) (fun k h1 h2 => hn' (by subst h2; exact h1))
  · exact (((Wrote.of hb F).trans wr).setCell (q := ⟨g, 0, none⟩) (.inl hg) a).setCell (q := ⟨g, 1, none⟩) (.inl hg) b
  · intro k hk
    rcases l k hk with h | h
    · exact .inl h
    · exact .inr (Nat.le_trans hb.size h)

theorem boxed1 (w : World) : ∀ W, w.alloc (.cells #[.int .u8 0, .int .i32 0] 40) = W → RBox W w.heap.size 0 0 ∧ Below w.heap.size w W := by
  rintro W rfl
  exact ⟨heap_alloc_new w _, (Below.refl _ _).alloc (Nat.le_refl _) _⟩

end

/-- A stack whose blocks are all new, and nothing old is touched. -/
def At (w : World) (F : Nat → Prop) (p : Nat) (most : Int) (zs : List Int) (wr : World) : Prop := Rng wr F p most zs ∧ Below w.heap.size w wr ∧ ∀ g, F g → w.heap.size ≤ g

section
variable {w a b : World} {F G : Nat → Prop} {p : Nat} {most : Int} {zs zs' : List Int}
theorem At.new {n : Int} (h : Rng b (New w b) p n zs) (hb : Below w.heap.size w b) : At w (New w b) p n zs b := ⟨h, hb, fun _ hg => hg.1⟩
theorem At.fresh (h : At w F p most zs a) (hb : Below a.heap.size a b) : At w F p most zs b := ⟨h.1.fresh hb, h.2.1.trans (hb.mono h.2.1.size), h.2.2⟩
theorem At.drew (h : At w F p most zs a) : At w F p most zs a.drew := h.fresh (Below.refl _ _).drew
theorem At.next (h : At w F p most zs a) (d : Did F p most zs' a b) : ∃ F', At w F' p most zs' b ∧ Wrote F a b ∧ Later F F' a := by
  obtain ⟨F', s, wr, l⟩ := d
  refine ⟨F', ⟨s, h.2.1.trans (wr.below h.2.1.size h.2.2), fun g hg => ?_⟩, wr, l⟩
  rcases l g hg with h1 | h1
  · exact h.2.2 g h1
  · exact Nat.le_trans h.2.1.size h1
theorem At.lt (h : At w F p most zs a) : ∀ g, F g → g < a.heap.size := h.1.foot
/-- Another one's call. -/
theorem At.apart {m2 : Int} {q : Nat} {ys ys' : List Int} (h : At w F p most zs a) (k : At w G q m2 ys a) (ha : Apart F G) (d : Did G q m2 ys' a b) : At w F p most zs b ∧ ∃ G', At w G' q m2 ys' b ∧ Apart F G' ∧ Wrote G a b ∧ Later G G' a := by
  obtain ⟨G', k2, wr, l⟩ := k.next d
  exact ⟨⟨h.1.apart wr ha, k2.2.1, h.2.2⟩, G', k2, (l.apart ha.symm h.lt).symm, wr, l⟩

/-- Numbers that lie beside a stack. -/
def Beside (F : Nat → Prop) (w : World) (ao : Option Addr) (n : Nat) (zs : List Int) : Prop := Reads .i32 w ao n zs ∧ Off F ao ∧ ∀ x, ao = some x → x.block < w.heap.size
theorem Beside.keep {ao : Option Addr} {n : Nat} (h : Beside F a ao n zs) (hb : Below a.heap.size a b) : Beside F b ao n zs := ⟨h.1.keep hb, h.2.1, fun x hx => Nat.lt_of_lt_of_le (h.2.2 x hx) hb.size⟩
theorem Beside.off {F' : Nat → Prop} {ao : Option Addr} {n : Nat} (h : Beside F a ao n zs) (hw : Wrote F a b) (l : Later F F' a) : Beside F' b ao n zs :=
  ⟨h.1.off h.2.1 hw, fun x hx => l.not (h.2.1 x hx) (h.2.2 x hx), fun x hx => Nat.lt_of_lt_of_le (h.2.2 x hx) hw.size⟩
/-- What is told lies beside the stack. -/
theorem beside_told {e : Ending} (hF : ∀ g, F g → g < a.heap.size) (h : Told a zs e b) : Beside F b (some ⟨a.heap.size, 0, none⟩) zs.length zs := by
  obtain ⟨_, ho, hb⟩ := h
  obtain ⟨ao, cap, e, hr, _, _⟩ := reads_own ho
  simp only [Value.slice.injEq] at e
  obtain ⟨rfl, _, _⟩ := e
  refine ⟨hr, fun x hx => ?_, fun x hx => ?_⟩
  · injection hx with hx
    subst hx
    intro hg
    have := hF a.heap.size hg
    omega
  · injection hx with hx
    subst hx
    exact (ho.lt a.heap.size rfl).2

theorem itemsBeside (h : Rng a F p most zs) (n : Nat) (hn : zs.length = n) :
    Calls Try.prog 26 #[.pointer (some ⟨p, 0, none⟩)] a fun e w' => e = .returned (.slice (some ⟨a.heap.size, 0, none⟩) n n) ∧ Beside F w' (some ⟨a.heap.size, 0, none⟩) n zs ∧ Below a.heap.size a w' := by
  subst hn
  exact (itemsAny h).mono fun _ _ t => ⟨t.1, beside_told h.foot t, t.2.2⟩
end

section
variable {w a b : World} {F G : Nat → Prop} {p : Nat} {most : Int} {zs : List Int}
theorem Rng.mono (h : Rng w F p most zs) (hFG : ∀ g, F g → G g) (hG : ∀ g, G g → g < w.heap.size) : Rng w G p most zs := by
  obtain ⟨g, ds, f, h1, h2, h3, h4, h5, h6, h7⟩ := h
  exact ⟨g, ds, f, h1, h2, h3, h4, hFG _ h5, hFG _ h6, hG⟩

/-- What holds at each round's head of Copy. -/
def CopyRel (w : World) (q : Nat) (most : Int) (zs : List Int) (K n : Nat) (i : Value) (wr : World) : Prop :=
  ∃ (k : Nat) (F' : Nat → Prop), k ≤ n ∧ i = .int .i64 k ∧ At w F' q most (zs.take k) wr ∧ Beside F' wr (some ⟨K, 0, none⟩) n zs

theorem copied_at {wr : World} {q : Nat} (h : At w F q most zs wr) : Copied w most zs (.returned (.pointer (some ⟨q, 0, none⟩))) wr :=
  ⟨q, rfl, h.1.mono (fun g hg => ⟨h.2.2 g hg, h.lt g hg⟩) (fun _ hg => hg.2), h.2.1⟩

end

theorem putTrue (w : World) : Calls Try.prog 37 #[.bool true] w fun e w' => e = .returned (.agg #[.int .u8 1, .int .i32 0]) ∧ Below w.heap.size w w' := by
  go_enter Try.func37, Try.ntmps37
  go_wp2
  exact bodyPost_ret (v := .agg #[.int .u8 1, .int .i32 0]) (by simp [results, Try.results37, go_sem]) rfl ⟨rfl, by exact (Below.refl _ _).alloc (Nat.le_refl _) _⟩
theorem putFalse (w : World) : Calls Try.prog 37 #[.bool false] w fun e w' => e = .returned (.agg #[.int .u8 3, .int .i32 0]) ∧ Below w.heap.size w w' := by
  go_enter Try.func37, Try.ntmps37
  go_wp2
  exact bodyPost_ret (v := .agg #[.int .u8 3, .int .i32 0]) (by simp [results, Try.results37, go_sem]) rfl ⟨rfl, by exact (Below.refl _ _).alloc (Nat.le_refl _) _⟩
theorem takenTrue (w : World) (v : Int) : Calls Try.prog 38 #[.int .i32 v, .bool true] w fun e w' => e = .returned (.agg #[.int .u8 2, .int .i32 v]) ∧ Below w.heap.size w w' := by
  go_enter Try.func38, Try.ntmps38
  go_wp2
  exact bodyPost_ret (v := .agg #[.int .u8 2, .int .i32 v]) (by simp [results, Try.results38, go_sem]) rfl ⟨rfl, by exact (Below.refl _ _).alloc (Nat.le_refl _) _⟩
theorem takenFalse (w : World) (v : Int) : Calls Try.prog 38 #[.int .i32 v, .bool false] w fun e w' => e = .returned (.agg #[.int .u8 4, .int .i32 0]) ∧ Below w.heap.size w w' := by
  go_enter Try.func38, Try.ntmps38
  go_wp2
  exact bodyPost_ret (v := .agg #[.int .u8 4, .int .i32 0]) (by simp [results, Try.results38, go_sem]) rfl ⟨rfl, by exact (Below.refl _ _).alloc (Nat.le_refl _) _⟩

/-- The boxes with which Do begins: the operation, what it is told. -/
theorem begunDo (w : World) (k x : Int) : ∀ W, (w.alloc (.cells #[.int .u8 k, .int .i32 x] 42)).alloc (.cells #[.int .u8 0, .int .i32 0] 40) = W →
    W.cell? ⟨w.heap.size, 0, none⟩ = some (.int .u8 k) ∧ W.cell? ⟨w.heap.size, 1, none⟩ = some (.int .i32 x) ∧ RBox W (w.heap.size + 1) 0 0 ∧ Below w.heap.size w W := by
  rintro W rfl
  refine ⟨?_, ?_, ?_, ((Below.refl _ _).alloc (Nat.le_refl _) _).alloc (by simp) _⟩
  · go_simp
  · go_simp
  · unfold RBox
    have := heap_alloc_new (w.alloc (.cells #[.int .u8 k, .int .i32 x] 42)) (.cells #[.int .u8 0, .int .i32 0] 40)
    simpa using this

section
variable {w w1 w2 : World} {F : Nat → Prop} {p : Nat} {most : Int} {zs : List Int}
theorem Did.fresh (d : Did F p most zs w w1) (hb : Below w1.heap.size w1 w2) : Did F p most zs w w2 := by
  obtain ⟨F', s, wr, l⟩ := d
  exact ⟨F', s.fresh hb, wr.trans (Wrote.of hb F), l⟩

set_option maxHeartbeats 1600000 in
theorem doPushLOk (h : Rng w F p most zs) (x : Int) (hf : (zs.length : Int) < most) :
    Calls Try.prog 24 #[.pointer (some ⟨p, 0, none⟩), .agg #[.int .u8 1, .int .i32 x]] w fun e w' => e = .returned (.agg #[.int .u8 1, .int .i32 0]) ∧ Did F p most (x :: zs) w w' := by
  go_enter Try.func24, Try.ntmps24
  go_upto_region 1 with (fail)
  generalize hW : (w.alloc (.cells #[.int .u8 1, .int .i32 x] 42)).alloc (.cells #[.int .u8 0, .int .i32 0] 40) = W
  obtain ⟨o0, o1, b0, hb⟩ := begunDo w _ _ W hW
  clear hW
  have HX := Lib.hid (fun w1 (d : Did F p most (x :: zs) W w1) => d.boxed h.foot hb (g := w.heap.size + 1) (by omega) b0.lt)
  have HZ := Lib.hid b0
  have H := Lib.hid (h.fresh hb)
  clear h hb b0
  have C := pushLOk H.out x hf
  go_wp2_with fail
  refine C.mono ?_
  clear C
  rintro e w1 ⟨rfl, d⟩
  have HD := Lib.hid d
  clear d o0 o1
  go_wp2_with fail
  refine (putTrue w1).mono ?_
  rintro e w2 ⟨rfl, b2⟩
  obtain ⟨h1, h2⟩ := HX.out w2 (HD.out.fresh b2)
  have b1 : RBox w2 (w.heap.size + 1) 0 0 := h1.trans HZ.out
  have H2 := Lib.hid h2
  clear h1 h2 b2
  have c0 := b1.c0
  have c1 := b1.c1
  have f := b1.f
  have r := b1.set2 1 0
  have r0 := r.c0
  have r1 := r.c1
  clear b1 r
  go_wp2
  exact bodyPost_ret (v := .agg #[.int .u8 1, .int .i32 0]) (by simp [results, Try.results24, go_sem, r0, r1]) rfl ⟨rfl, H2.out _ _⟩

set_option maxHeartbeats 1600000 in
theorem doPushLFull (h : Rng w F p most zs) (x : Int) (hf : ¬ (zs.length : Int) < most) :
    Calls Try.prog 24 #[.pointer (some ⟨p, 0, none⟩), .agg #[.int .u8 1, .int .i32 x]] w fun e w' => e = .returned (.agg #[.int .u8 3, .int .i32 0]) ∧ Did F p most zs w w' := by
  go_enter Try.func24, Try.ntmps24
  go_upto_region 1 with (fail)
  generalize hW : (w.alloc (.cells #[.int .u8 1, .int .i32 x] 42)).alloc (.cells #[.int .u8 0, .int .i32 0] 40) = W
  obtain ⟨o0, o1, b0, hb⟩ := begunDo w _ _ W hW
  clear hW
  have HX := Lib.hid (fun w1 (d : Did F p most zs W w1) => d.boxed h.foot hb (g := w.heap.size + 1) (by omega) b0.lt)
  have HZ := Lib.hid b0
  have H := Lib.hid (h.fresh hb)
  clear h hb b0
  have C := pushLFull H.out x (by omega)
  go_wp2_with fail
  refine C.mono ?_
  clear C
  rintro e w1 ⟨rfl, rfl⟩
  clear o0 o1
  go_wp2_with fail
  refine (putFalse W).mono ?_
  rintro e w2 ⟨rfl, b2⟩
  obtain ⟨h1, h2⟩ := HX.out w2 (H.out.did b2)
  have b1 : RBox w2 (w.heap.size + 1) 0 0 := h1.trans HZ.out
  have H2 := Lib.hid h2
  clear h1 h2 b2
  have c0 := b1.c0
  have c1 := b1.c1
  have f := b1.f
  have r := b1.set2 3 0
  have r0 := r.c0
  have r1 := r.c1
  clear b1 r
  go_wp2
  exact bodyPost_ret (v := .agg #[.int .u8 3, .int .i32 0]) (by simp [results, Try.results24, go_sem, r0, r1]) rfl ⟨rfl, H2.out _ _⟩

set_option maxHeartbeats 1600000 in
theorem doPushROk (h : Rng w F p most zs) (x : Int) (hf : (zs.length : Int) < most) :
    Calls Try.prog 24 #[.pointer (some ⟨p, 0, none⟩), .agg #[.int .u8 2, .int .i32 x]] w fun e w' => e = .returned (.agg #[.int .u8 1, .int .i32 0]) ∧ Did F p most (zs ++ [x]) w w' := by
  go_enter Try.func24, Try.ntmps24
  go_upto_region 1 with (fail)
  generalize hW : (w.alloc (.cells #[.int .u8 2, .int .i32 x] 42)).alloc (.cells #[.int .u8 0, .int .i32 0] 40) = W
  obtain ⟨o0, o1, b0, hb⟩ := begunDo w _ _ W hW
  clear hW
  have HX := Lib.hid (fun w1 (d : Did F p most (zs ++ [x]) W w1) => d.boxed h.foot hb (g := w.heap.size + 1) (by omega) b0.lt)
  have HZ := Lib.hid b0
  have H := Lib.hid (h.fresh hb)
  clear h hb b0
  have C := pushROk H.out x hf
  go_wp2_with fail
  refine C.mono ?_
  clear C
  rintro e w1 ⟨rfl, d⟩
  have HD := Lib.hid d
  clear d o0 o1
  go_wp2_with fail
  refine (putTrue w1).mono ?_
  rintro e w2 ⟨rfl, b2⟩
  obtain ⟨h1, h2⟩ := HX.out w2 (HD.out.fresh b2)
  have b1 : RBox w2 (w.heap.size + 1) 0 0 := h1.trans HZ.out
  have H2 := Lib.hid h2
  clear h1 h2 b2
  have c0 := b1.c0
  have c1 := b1.c1
  have f := b1.f
  have r := b1.set2 1 0
  have r0 := r.c0
  have r1 := r.c1
  clear b1 r
  go_wp2
  exact bodyPost_ret (v := .agg #[.int .u8 1, .int .i32 0]) (by simp [results, Try.results24, go_sem, r0, r1]) rfl ⟨rfl, H2.out _ _⟩

set_option maxHeartbeats 1600000 in
theorem doPushRFull (h : Rng w F p most zs) (x : Int) (hf : ¬ (zs.length : Int) < most) :
    Calls Try.prog 24 #[.pointer (some ⟨p, 0, none⟩), .agg #[.int .u8 2, .int .i32 x]] w fun e w' => e = .returned (.agg #[.int .u8 3, .int .i32 0]) ∧ Did F p most zs w w' := by
  go_enter Try.func24, Try.ntmps24
  go_upto_region 1 with (fail)
  generalize hW : (w.alloc (.cells #[.int .u8 2, .int .i32 x] 42)).alloc (.cells #[.int .u8 0, .int .i32 0] 40) = W
  obtain ⟨o0, o1, b0, hb⟩ := begunDo w _ _ W hW
  clear hW
  have HX := Lib.hid (fun w1 (d : Did F p most zs W w1) => d.boxed h.foot hb (g := w.heap.size + 1) (by omega) b0.lt)
  have HZ := Lib.hid b0
  have H := Lib.hid (h.fresh hb)
  clear h hb b0
  have C := pushRFull H.out x (by omega)
  go_wp2_with fail
  refine C.mono ?_
  clear C
  rintro e w1 ⟨rfl, rfl⟩
  clear o0 o1
  go_wp2_with fail
  refine (putFalse W).mono ?_
  rintro e w2 ⟨rfl, b2⟩
  obtain ⟨h1, h2⟩ := HX.out w2 (H.out.did b2)
  have b1 : RBox w2 (w.heap.size + 1) 0 0 := h1.trans HZ.out
  have H2 := Lib.hid h2
  clear h1 h2 b2
  have c0 := b1.c0
  have c1 := b1.c1
  have f := b1.f
  have r := b1.set2 3 0
  have r0 := r.c0
  have r1 := r.c1
  clear b1 r
  go_wp2
  exact bodyPost_ret (v := .agg #[.int .u8 3, .int .i32 0]) (by simp [results, Try.results24, go_sem, r0, r1]) rfl ⟨rfl, H2.out _ _⟩

set_option maxHeartbeats 1600000 in
theorem doPopLOk (z : Int) (h : Rng w F p most (z :: zs)) (x : Int) :
    Calls Try.prog 24 #[.pointer (some ⟨p, 0, none⟩), .agg #[.int .u8 3, .int .i32 x]] w fun e w' => e = .returned (.agg #[.int .u8 2, .int .i32 z]) ∧ Did F p most zs w w' := by
  go_enter Try.func24, Try.ntmps24
  go_upto_region 1 with (fail)
  generalize hW : (w.alloc (.cells #[.int .u8 3, .int .i32 x] 42)).alloc (.cells #[.int .u8 0, .int .i32 0] 40) = W
  obtain ⟨o0, o1, b0, hb⟩ := begunDo w _ _ W hW
  clear hW
  have HX := Lib.hid (fun w1 (d : Did F p most zs W w1) => d.boxed h.foot hb (g := w.heap.size + 1) (by omega) b0.lt)
  have HZ := Lib.hid b0
  have H := Lib.hid (h.fresh hb)
  clear h hb b0
  have C := popLOk z H.out
  go_wp2_with fail
  refine C.mono ?_
  clear C
  rintro e w1 ⟨rfl, d⟩
  have HD := Lib.hid d
  clear d o0 o1
  go_wp2_with fail
  refine (takenTrue w1 z).mono ?_
  rintro e w2 ⟨rfl, b2⟩
  obtain ⟨h1, h2⟩ := HX.out w2 (HD.out.fresh b2)
  have b1 : RBox w2 (w.heap.size + 1) 0 0 := h1.trans HZ.out
  have H2 := Lib.hid h2
  clear h1 h2 b2
  have c0 := b1.c0
  have c1 := b1.c1
  have f := b1.f
  have r := b1.set2 2 z
  have r0 := r.c0
  have r1 := r.c1
  clear b1 r
  go_wp2
  exact bodyPost_ret (v := .agg #[.int .u8 2, .int .i32 z]) (by simp [results, Try.results24, go_sem, r0, r1]) rfl ⟨rfl, H2.out _ _⟩

set_option maxHeartbeats 1600000 in
theorem doPopLNone (h : Rng w F p most []) (x : Int) :
    Calls Try.prog 24 #[.pointer (some ⟨p, 0, none⟩), .agg #[.int .u8 3, .int .i32 x]] w fun e w' => e = .returned (.agg #[.int .u8 4, .int .i32 0]) ∧ Did F p most [] w w' := by
  go_enter Try.func24, Try.ntmps24
  go_upto_region 1 with (fail)
  generalize hW : (w.alloc (.cells #[.int .u8 3, .int .i32 x] 42)).alloc (.cells #[.int .u8 0, .int .i32 0] 40) = W
  obtain ⟨o0, o1, b0, hb⟩ := begunDo w _ _ W hW
  clear hW
  have HX := Lib.hid (fun w1 (d : Did F p most [] W w1) => d.boxed h.foot hb (g := w.heap.size + 1) (by omega) b0.lt)
  have HZ := Lib.hid b0
  have H := Lib.hid (h.fresh hb)
  clear h hb b0
  have C := popLNone H.out
  go_wp2_with fail
  refine C.mono ?_
  clear C
  rintro e w1 ⟨rfl, rfl⟩
  clear o0 o1
  go_wp2_with fail
  refine (takenFalse W 0).mono ?_
  rintro e w2 ⟨rfl, b2⟩
  obtain ⟨h1, h2⟩ := HX.out w2 (H.out.did b2)
  have b1 : RBox w2 (w.heap.size + 1) 0 0 := h1.trans HZ.out
  have H2 := Lib.hid h2
  clear h1 h2 b2
  have c0 := b1.c0
  have c1 := b1.c1
  have f := b1.f
  have r := b1.set2 4 0
  have r0 := r.c0
  have r1 := r.c1
  clear b1 r
  go_wp2
  exact bodyPost_ret (v := .agg #[.int .u8 4, .int .i32 0]) (by simp [results, Try.results24, go_sem, r0, r1]) rfl ⟨rfl, H2.out _ _⟩

set_option maxHeartbeats 1600000 in
theorem doPopROk (z : Int) (h : Rng w F p most (zs ++ [z])) (x : Int) :
    Calls Try.prog 24 #[.pointer (some ⟨p, 0, none⟩), .agg #[.int .u8 4, .int .i32 x]] w fun e w' => e = .returned (.agg #[.int .u8 2, .int .i32 z]) ∧ Did F p most zs w w' := by
  go_enter Try.func24, Try.ntmps24
  go_upto_region 1 with (fail)
  generalize hW : (w.alloc (.cells #[.int .u8 4, .int .i32 x] 42)).alloc (.cells #[.int .u8 0, .int .i32 0] 40) = W
  obtain ⟨o0, o1, b0, hb⟩ := begunDo w _ _ W hW
  clear hW
  have HX := Lib.hid (fun w1 (d : Did F p most zs W w1) => d.boxed h.foot hb (g := w.heap.size + 1) (by omega) b0.lt)
  have HZ := Lib.hid b0
  have H := Lib.hid (h.fresh hb)
  clear h hb b0
  have C := popROk z H.out
  go_wp2_with fail
  refine C.mono ?_
  clear C
  rintro e w1 ⟨rfl, d⟩
  have HD := Lib.hid d
  clear d o0 o1
  go_wp2_with fail
  refine (takenTrue w1 z).mono ?_
  rintro e w2 ⟨rfl, b2⟩
  obtain ⟨h1, h2⟩ := HX.out w2 (HD.out.fresh b2)
  have b1 : RBox w2 (w.heap.size + 1) 0 0 := h1.trans HZ.out
  have H2 := Lib.hid h2
  clear h1 h2 b2
  have c0 := b1.c0
  have c1 := b1.c1
  have f := b1.f
  have r := b1.set2 2 z
  have r0 := r.c0
  have r1 := r.c1
  clear b1 r
  go_wp2
  exact bodyPost_ret (v := .agg #[.int .u8 2, .int .i32 z]) (by simp [results, Try.results24, go_sem, r0, r1]) rfl ⟨rfl, H2.out _ _⟩

set_option maxHeartbeats 1600000 in
theorem doPopRNone (h : Rng w F p most []) (x : Int) :
    Calls Try.prog 24 #[.pointer (some ⟨p, 0, none⟩), .agg #[.int .u8 4, .int .i32 x]] w fun e w' => e = .returned (.agg #[.int .u8 4, .int .i32 0]) ∧ Did F p most [] w w' := by
  go_enter Try.func24, Try.ntmps24
  go_upto_region 1 with (fail)
  generalize hW : (w.alloc (.cells #[.int .u8 4, .int .i32 x] 42)).alloc (.cells #[.int .u8 0, .int .i32 0] 40) = W
  obtain ⟨o0, o1, b0, hb⟩ := begunDo w _ _ W hW
  clear hW
  have HX := Lib.hid (fun w1 (d : Did F p most [] W w1) => d.boxed h.foot hb (g := w.heap.size + 1) (by omega) b0.lt)
  have HZ := Lib.hid b0
  have H := Lib.hid (h.fresh hb)
  clear h hb b0
  have C := popRNone H.out
  go_wp2_with fail
  refine C.mono ?_
  clear C
  rintro e w1 ⟨rfl, rfl⟩
  clear o0 o1
  go_wp2_with fail
  refine (takenFalse W 0).mono ?_
  rintro e w2 ⟨rfl, b2⟩
  obtain ⟨h1, h2⟩ := HX.out w2 (H.out.did b2)
  have b1 : RBox w2 (w.heap.size + 1) 0 0 := h1.trans HZ.out
  have H2 := Lib.hid h2
  clear h1 h2 b2
  have c0 := b1.c0
  have c1 := b1.c1
  have f := b1.f
  have r := b1.set2 4 0
  have r0 := r.c0
  have r1 := r.c1
  clear b1 r
  go_wp2
  exact bodyPost_ret (v := .agg #[.int .u8 4, .int .i32 0]) (by simp [results, Try.results24, go_sem, r0, r1]) rfl ⟨rfl, H2.out _ _⟩

set_option maxHeartbeats 1600000 in
theorem doBad (h : Rng w F p most zs) (x : Int) (k : Int) (n1 : k ≠ 1) (n2 : k ≠ 2) (n3 : k ≠ 3) (n4 : k ≠ 4) :
    Calls Try.prog 24 #[.pointer (some ⟨p, 0, none⟩), .agg #[.int .u8 k, .int .i32 x]] w fun e w' => e = .returned (.agg #[.int .u8 5, .int .i32 0]) ∧ Did F p most zs w w' := by
  have d1 : (k == (1 : Int)) = false := beq_eq_false_iff_ne.2 n1
  have d2 : (k == (2 : Int)) = false := beq_eq_false_iff_ne.2 n2
  have d3 : (k == (3 : Int)) = false := beq_eq_false_iff_ne.2 n3
  have d4 : (k == (4 : Int)) = false := beq_eq_false_iff_ne.2 n4
  clear n1 n2 n3 n4
  go_enter Try.func24, Try.ntmps24
  go_upto_region 1 with (fail)
  generalize hW : (w.alloc (.cells #[.int .u8 k, .int .i32 x] 42)).alloc (.cells #[.int .u8 0, .int .i32 0] 40) = W
  obtain ⟨o0, o1, b0, hb⟩ := begunDo w _ _ W hW
  clear hW
  have HX := Lib.hid (fun w1 (d : Did F p most zs W w1) => d.boxed h.foot hb (g := w.heap.size + 1) (by omega) b0.lt)
  have HZ := Lib.hid b0
  have H := Lib.hid (h.fresh hb)
  clear h hb b0
  obtain ⟨h1, h2⟩ := HX.out W (H.out.did (Below.refl _ _))
  have b1 := HZ.out
  have H2 := Lib.hid h2
  clear h1 h2
  have c0 := b1.c0
  have c1 := b1.c1
  have f := b1.f
  have r := b1.set2 5 0
  have r0 := r.c0
  have r1 := r.c1
  clear b1 r
  go_wp2
  exact bodyPost_ret (v := .agg #[.int .u8 5, .int .i32 0]) (by simp [results, Try.results24, go_sem, r0, r1]) rfl ⟨rfl, H2.out _ _⟩

theorem doAny (h : Rng w F p most zs) (k x : Int) :
    Calls Try.prog 24 #[.pointer (some ⟨p, 0, none⟩), .agg #[.int .u8 k, .int .i32 x]] w fun e w' => e = .returned (.agg #[.int .u8 (dqC most zs k), .int .i32 (dqV zs k)]) ∧ Did F p most (dqL most zs k x) w w' := by
  by_cases h1 : k = 1
  · subst h1
    by_cases hf : (zs.length : Int) < most
    · exact (doPushLOk h x hf).mono fun _ _ ⟨a, b⟩ => ⟨by simpa [dqC, dqV, hf] using a, by simpa [dqL, hf] using b⟩
    · exact (doPushLFull h x hf).mono fun _ _ ⟨a, b⟩ => ⟨by simpa [dqC, dqV, hf] using a, by simpa [dqL, hf] using b⟩
  by_cases h2 : k = 2
  · subst h2
    by_cases hf : (zs.length : Int) < most
    · exact (doPushROk h x hf).mono fun _ _ ⟨a, b⟩ => ⟨by simpa [dqC, dqV, hf] using a, by simpa [dqL, hf] using b⟩
    · exact (doPushRFull h x hf).mono fun _ _ ⟨a, b⟩ => ⟨by simpa [dqC, dqV, hf] using a, by simpa [dqL, hf] using b⟩
  by_cases h3 : k = 3
  · subst h3
    cases zs with
    | nil => exact (doPopLNone h x).mono fun _ _ ⟨a, b⟩ => ⟨by simpa [dqC, dqV] using a, by simpa [dqL] using b⟩
    | cons z zs => exact (doPopLOk z h x).mono fun _ _ ⟨a, b⟩ => ⟨by simpa [dqC, dqV] using a, by simpa [dqL] using b⟩
  by_cases h4 : k = 4
  · subst h4
    rcases List.eq_nil_or_concat zs with rfl | ⟨ys, y, rfl⟩
    · exact (doPopRNone h x).mono fun _ _ ⟨a, b⟩ => ⟨by simpa [dqC, dqV] using a, by simpa [dqL] using b⟩
    · rw [List.concat_eq_append] at h ⊢
      exact (doPopROk y h x).mono fun _ _ ⟨a, b⟩ => ⟨by simpa [dqC, dqV] using a, by simpa [dqL] using b⟩
  exact (doBad h x k h1 h2 h3 h4).mono fun _ _ ⟨a, b⟩ => ⟨by simpa [dqC, dqV, h1, h2, h3, h4] using a, by simpa [dqL, h1, h2, h3, h4] using b⟩
end

/-- A deque all of whose blocks stand from B on. -/
def Rng1 (w : World) (B p : Nat) (most : Int) (zs : List Int) : Prop := ∃ F, Rng w F p most zs ∧ ∀ g, F g → B ≤ g

section
variable {w w' : World} {F : Nat → Prop} {B p : Nat} {most : Int} {zs : List Int}

theorem Did.one {zs' : List Int} (h : Rng w F p most zs) (hF : ∀ g, F g → B ≤ g) (d : Did F p most zs' w w') : Rng1 w' B p most zs' ∧ Below B w w' := by
  obtain ⟨F', s, wr, l⟩ := d
  have hB : B ≤ w.heap.size := Nat.le_of_lt (Nat.lt_of_le_of_lt (hF p h.in) h.lt)
  refine ⟨⟨F', s, fun g hg => ?_⟩, wr.below hB hF⟩
  rcases l g hg with h1 | h1
  · exact hF g h1
  · omega
theorem Rng1.fresh (h : Rng1 w B p most zs) (hb : Below w.heap.size w w') : Rng1 w' B p most zs := by obtain ⟨F, s, hF⟩ := h; exact ⟨F, s.fresh hb, hF⟩
theorem Rng1.len (h : Rng1 w B p most zs) : zs.length ≤ 1000 := by obtain ⟨F, s, _⟩ := h; exact s.len
theorem Rng1.room (h : Rng1 w B p most zs) : (zs.length : Int) ≤ most := by obtain ⟨F, s, _⟩ := h; exact s.room
theorem Rng1.base (h : Rng1 w B p most zs) : B ≤ w.heap.size := by obtain ⟨F, s, hF⟩ := h; exact Nat.le_of_lt (Nat.lt_of_le_of_lt (hF p s.in) s.lt)

theorem new1 (n : Int) (w : World) :
    Calls Try.prog 28 #[.int .i64 n] w fun e w' => ∃ q, e = .returned (.pointer (some ⟨q, 0, none⟩)) ∧ Rng1 w' w.heap.size q (mostOf n) [] ∧ Below w.heap.size w w' :=
  (newAny n w).mono fun _ _ ⟨q, he, s, b⟩ => ⟨q, he, ⟨_, s, fun _ hg => hg.1⟩, b⟩
theorem len1 (h : Rng1 w B p most zs) : Calls Try.prog 15 #[.pointer (some ⟨p, 0, none⟩)] w fun e w' => e = .returned (.int .i64 zs.length) ∧ w = w' := by
  obtain ⟨F, s, _⟩ := h; exact lenAny s
theorem most1 (h : Rng1 w B p most zs) : Calls Try.prog 27 #[.pointer (some ⟨p, 0, none⟩)] w fun e w' => e = .returned (.int .i64 most) ∧ w = w' := by
  obtain ⟨F, s, _⟩ := h; exact mostAny s
theorem items1 (h : Rng1 w B p most zs) : Calls Try.prog 26 #[.pointer (some ⟨p, 0, none⟩)] w (Told w zs) := by
  obtain ⟨F, s, _⟩ := h; exact itemsAny s
theorem pushL1 (h : Rng1 w B p most zs) (x : Int) (hf : (zs.length : Int) < most) :
    Calls Try.prog 29 #[.pointer (some ⟨p, 0, none⟩), .int .i32 x] w fun e w' => e = .returned (.bool true) ∧ Rng1 w' B p most (x :: zs) ∧ Below B w w' := by
  obtain ⟨F, s, hF⟩ := h
  exact (pushLOk s x hf).mono fun _ _ ⟨he, d⟩ => ⟨he, d.one s hF⟩
theorem pushR1 (h : Rng1 w B p most zs) (x : Int) (hf : (zs.length : Int) < most) :
    Calls Try.prog 30 #[.pointer (some ⟨p, 0, none⟩), .int .i32 x] w fun e w' => e = .returned (.bool true) ∧ Rng1 w' B p most (zs ++ [x]) ∧ Below B w w' := by
  obtain ⟨F, s, hF⟩ := h
  exact (pushROk s x hf).mono fun _ _ ⟨he, d⟩ => ⟨he, d.one s hF⟩
theorem popL1 (z : Int) (h : Rng1 w B p most (z :: zs)) :
    Calls Try.prog 39 #[.pointer (some ⟨p, 0, none⟩)] w fun e w' => e = .returned (.tuple #[.int .i32 z, .bool true]) ∧ Rng1 w' B p most zs ∧ Below B w w' := by
  obtain ⟨F, s, hF⟩ := h
  exact (popLOk z s).mono fun _ _ ⟨he, d⟩ => ⟨he, d.one s hF⟩
theorem popR1 (y : Int) (h : Rng1 w B p most (zs ++ [y])) :
    Calls Try.prog 40 #[.pointer (some ⟨p, 0, none⟩)] w fun e w' => e = .returned (.tuple #[.int .i32 y, .bool true]) ∧ Rng1 w' B p most zs ∧ Below B w w' := by
  obtain ⟨F, s, hF⟩ := h
  exact (popROk y s).mono fun _ _ ⟨he, d⟩ => ⟨he, d.one s hF⟩
theorem do1 (h : Rng1 w B p most zs) (k x : Int) :
    Calls Try.prog 24 #[.pointer (some ⟨p, 0, none⟩), .agg #[.int .u8 k, .int .i32 x]] w fun e w' => e = .returned (.agg #[.int .u8 (dqC most zs k), .int .i32 (dqV zs k)]) ∧ Rng1 w' B p most (dqL most zs k x) ∧ Below B w w' := by
  obtain ⟨F, s, hF⟩ := h
  exact (doAny s k x).mono fun _ _ ⟨he, d⟩ => ⟨he, d.one s hF⟩
end

end Go.Proofs.Ytafocplahmfghaa
