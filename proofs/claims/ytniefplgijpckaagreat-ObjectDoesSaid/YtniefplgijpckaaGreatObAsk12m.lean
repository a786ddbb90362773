/-
  What Items, Len, Level and Feed of package object tell, and leave, at every object and at nil. Conditions: an object as Ob says.
-/
import Derived.Test.YtniefplgijpckaaGreatObDo12m
import Derived.Stop.Asserts
namespace Go.Proofs.YtniefplgijpckaaGreat
open Go.RowKit Go.Lib

section
variable {w w' : World} {F : Nat → Prop} {o : Nat} {k m : Int} {pl : Bool} {s : List It × List Bool} {zs : List Int} {e : Ending}
theorem K9.Told.reads (h : K9.Told w zs e w') : ToldR w zs e w' := ToldL.reads ⟨_, h.1, h.2.1, h.2.2⟩
theorem D10.Told.reads (h : D10.Told w zs e w') : ToldR w zs e w' := ToldL.reads ⟨_, h.1, h.2.1, h.2.2⟩
theorem ToldR.told (h : ToldR w zs e w') : ∃ a n c, e = .returned (.slice a n c) := by obtain ⟨a, c, h, _⟩ := h; exact ⟨_, _, _, h⟩
theorem toldR_none (w : World) : ToldR w [] (.returned (.slice none 0 0)) w := ⟨none, 0, rfl, ⟨rfl, fun h => by simp at h⟩, Nat.le_refl _, (fun _ h => by cases h), Below.refl _ _⟩
end

theorem meth1items (p : Nat) (w : World) : (method 327 92 (.agg #[.pointer (some ⟨p, 0, none⟩)]) "Items").run Tryz.prog w = .ok (70, .pointer (some ⟨p, 0, none⟩)) w := by kernel_rfl
theorem meth1len (p : Nat) (w : World) : (method 327 92 (.agg #[.pointer (some ⟨p, 0, none⟩)]) "Len").run Tryz.prog w = .ok (71, .pointer (some ⟨p, 0, none⟩)) w := by kernel_rfl
set_option maxRecDepth 100000 in
set_option maxHeartbeats 4000000 in
theorem items1 {w : World} {o p q : Nat} {pl : Bool} {zs : List Int} (x : OBlk w o (holdV (tyOf 1) p) q pl) (C : Calls Tryz.prog 70 #[.pointer (some ⟨p, 0, none⟩)] w (ToldR w zs)) :
    Calls Tryz.prog 20 #[.pointer (some ⟨o, 0, none⟩)] w (ToldR w zs) := by
  have c0 : w.cell? ⟨o, 0, none⟩ = some (.iface 92 (.agg #[.pointer (some ⟨p, 0, none⟩)])) := x.c0
  have hm := meth1items p
  clear x
  go_enter Tryz.func20, Tryz.ntmps20
  go_wp2_with fail
  refine C.mono ?_
  rintro e w1 hp
  have HP := Lib.hid hp
  obtain ⟨a, n, c, rfl⟩ := hp.told
  clear hp c0 hm
  go_wp2
  go_ret
  exact HP.out
set_option maxRecDepth 100000 in
set_option maxHeartbeats 4000000 in
theorem len1 {w : World} {o p q : Nat} {pl : Bool} {n : Nat} (x : OBlk w o (holdV (tyOf 1) p) q pl) (C : Calls Tryz.prog 71 #[.pointer (some ⟨p, 0, none⟩)] w fun e w' => e = .returned (.int .i64 n) ∧ w = w') :
    Calls Tryz.prog 24 #[.pointer (some ⟨o, 0, none⟩)] w fun e w' => e = .returned (.int .i64 n) ∧ w = w' := by
  have c0 : w.cell? ⟨o, 0, none⟩ = some (.iface 92 (.agg #[.pointer (some ⟨p, 0, none⟩)])) := x.c0
  have hm := meth1len p
  clear x
  go_enter Tryz.func24, Tryz.ntmps24
  go_wp2_with fail
  refine C.mono ?_
  rintro e w1 ⟨rfl, rfl⟩
  clear c0 hm
  go_wp2
  go_ret
  exact ⟨rfl, rfl⟩

theorem meth2items (p : Nat) (w : World) : (method 327 96 (.agg #[.pointer (some ⟨p, 0, none⟩)]) "Items").run Tryz.prog w = .ok (94, .pointer (some ⟨p, 0, none⟩)) w := by kernel_rfl
theorem meth2len (p : Nat) (w : World) : (method 327 96 (.agg #[.pointer (some ⟨p, 0, none⟩)]) "Len").run Tryz.prog w = .ok (95, .pointer (some ⟨p, 0, none⟩)) w := by kernel_rfl
set_option maxRecDepth 100000 in
set_option maxHeartbeats 4000000 in
theorem items2 {w : World} {o p q : Nat} {pl : Bool} {zs : List Int} (x : OBlk w o (holdV (tyOf 2) p) q pl) (C : Calls Tryz.prog 94 #[.pointer (some ⟨p, 0, none⟩)] w (ToldR w zs)) :
    Calls Tryz.prog 20 #[.pointer (some ⟨o, 0, none⟩)] w (ToldR w zs) := by
  have c0 : w.cell? ⟨o, 0, none⟩ = some (.iface 96 (.agg #[.pointer (some ⟨p, 0, none⟩)])) := x.c0
  have hm := meth2items p
  clear x
  go_enter Tryz.func20, Tryz.ntmps20
  go_wp2_with fail
  refine C.mono ?_
  rintro e w1 hp
  have HP := Lib.hid hp
  obtain ⟨a, n, c, rfl⟩ := hp.told
  clear hp c0 hm
  go_wp2
  go_ret
  exact HP.out
set_option maxRecDepth 100000 in
set_option maxHeartbeats 4000000 in
theorem len2 {w : World} {o p q : Nat} {pl : Bool} {n : Nat} (x : OBlk w o (holdV (tyOf 2) p) q pl) (C : Calls Tryz.prog 95 #[.pointer (some ⟨p, 0, none⟩)] w fun e w' => e = .returned (.int .i64 n) ∧ w = w') :
    Calls Tryz.prog 24 #[.pointer (some ⟨o, 0, none⟩)] w fun e w' => e = .returned (.int .i64 n) ∧ w = w' := by
  have c0 : w.cell? ⟨o, 0, none⟩ = some (.iface 96 (.agg #[.pointer (some ⟨p, 0, none⟩)])) := x.c0
  have hm := meth2len p
  clear x
  go_enter Tryz.func24, Tryz.ntmps24
  go_wp2_with fail
  refine C.mono ?_
  rintro e w1 ⟨rfl, rfl⟩
  clear c0 hm
  go_wp2
  go_ret
  exact ⟨rfl, rfl⟩

theorem meth3items (p : Nat) (w : World) : (method 327 100 (.agg #[.pointer (some ⟨p, 0, none⟩)]) "Items").run Tryz.prog w = .ok (124, .pointer (some ⟨p, 0, none⟩)) w := by kernel_rfl
theorem meth3len (p : Nat) (w : World) : (method 327 100 (.agg #[.pointer (some ⟨p, 0, none⟩)]) "Len").run Tryz.prog w = .ok (125, .pointer (some ⟨p, 0, none⟩)) w := by kernel_rfl
set_option maxRecDepth 100000 in
set_option maxHeartbeats 4000000 in
theorem items3 {w : World} {o p q : Nat} {pl : Bool} {zs : List Int} (x : OBlk w o (holdV (tyOf 3) p) q pl) (C : Calls Tryz.prog 124 #[.pointer (some ⟨p, 0, none⟩)] w (ToldR w zs)) :
    Calls Tryz.prog 20 #[.pointer (some ⟨o, 0, none⟩)] w (ToldR w zs) := by
  have c0 : w.cell? ⟨o, 0, none⟩ = some (.iface 100 (.agg #[.pointer (some ⟨p, 0, none⟩)])) := x.c0
  have hm := meth3items p
  clear x
  go_enter Tryz.func20, Tryz.ntmps20
  go_wp2_with fail
  refine C.mono ?_
  rintro e w1 hp
  have HP := Lib.hid hp
  obtain ⟨a, n, c, rfl⟩ := hp.told
  clear hp c0 hm
  go_wp2
  go_ret
  exact HP.out
set_option maxRecDepth 100000 in
set_option maxHeartbeats 4000000 in
theorem len3 {w : World} {o p q : Nat} {pl : Bool} {n : Nat} (x : OBlk w o (holdV (tyOf 3) p) q pl) (C : Calls Tryz.prog 125 #[.pointer (some ⟨p, 0, none⟩)] w fun e w' => e = .returned (.int .i64 n) ∧ w = w') :
    Calls Tryz.prog 24 #[.pointer (some ⟨o, 0, none⟩)] w fun e w' => e = .returned (.int .i64 n) ∧ w = w' := by
  have c0 : w.cell? ⟨o, 0, none⟩ = some (.iface 100 (.agg #[.pointer (some ⟨p, 0, none⟩)])) := x.c0
  have hm := meth3len p
  clear x
  go_enter Tryz.func24, Tryz.ntmps24
  go_wp2_with fail
  refine C.mono ?_
  rintro e w1 ⟨rfl, rfl⟩
  clear c0 hm
  go_wp2
  go_ret
  exact ⟨rfl, rfl⟩

set_option maxRecDepth 100000 in
set_option maxHeartbeats 4000000 in
theorem level1 {w : World} {o p q : Nat} {pl : Bool} (x : OBlk w o (holdV (tyOf 1) p) q pl) (j : Int) :
    Calls Tryz.prog 23 #[.pointer (some ⟨o, 0, none⟩), .int .i64 j] w fun e w' => e = .returned (.slice none 0 0) ∧ w = w' := by
  have c0 : w.cell? ⟨o, 0, none⟩ = some (.iface 92 (.agg #[.pointer (some ⟨p, 0, none⟩)])) := x.c0
  have ha := fun (w : World) => run_typeAssert_lacksB (P := Tryz.prog) (z := .nilIface) (asserted := 80) (t := 92) Tryz.underlying80 (by kernel_rfl) (by kernel_rfl) (.agg #[.pointer (some ⟨p, 0, none⟩)]) 68 w
  clear x
  go_enter Tryz.func23, Tryz.ntmps23
  go_wp2
  go_ret
  exact ⟨rfl, rfl⟩

set_option maxRecDepth 100000 in
set_option maxHeartbeats 4000000 in
theorem level2 {w : World} {o p q : Nat} {pl : Bool} (x : OBlk w o (holdV (tyOf 2) p) q pl) (j : Int) :
    Calls Tryz.prog 23 #[.pointer (some ⟨o, 0, none⟩), .int .i64 j] w fun e w' => e = .returned (.slice none 0 0) ∧ w = w' := by
  have c0 : w.cell? ⟨o, 0, none⟩ = some (.iface 96 (.agg #[.pointer (some ⟨p, 0, none⟩)])) := x.c0
  have ha := fun (w : World) => run_typeAssert_lacksB (P := Tryz.prog) (z := .nilIface) (asserted := 80) (t := 96) Tryz.underlying80 (by kernel_rfl) (by kernel_rfl) (.agg #[.pointer (some ⟨p, 0, none⟩)]) 68 w
  clear x
  go_enter Tryz.func23, Tryz.ntmps23
  go_wp2
  go_ret
  exact ⟨rfl, rfl⟩

theorem meth3level (p : Nat) (w : World) : (method 327 100 (.agg #[.pointer (some ⟨p, 0, none⟩)]) "Level").run Tryz.prog w = .ok (126, .pointer (some ⟨p, 0, none⟩)) w := by kernel_rfl
set_option maxRecDepth 100000 in
set_option maxHeartbeats 4000000 in
theorem level3 {w : World} {o p q : Nat} {pl : Bool} {zs : List Int} (x : OBlk w o (holdV (tyOf 3) p) q pl) (j : Int) (C : Calls Tryz.prog 126 #[.pointer (some ⟨p, 0, none⟩), .int .i64 j] w (ToldR w zs)) :
    Calls Tryz.prog 23 #[.pointer (some ⟨o, 0, none⟩), .int .i64 j] w (ToldR w zs) := by
  have c0 : w.cell? ⟨o, 0, none⟩ = some (.iface 100 (.agg #[.pointer (some ⟨p, 0, none⟩)])) := x.c0
  have ha := fun (w : World) => run_typeAssert_hasB (P := Tryz.prog) (asserted := 80) (t := 100) Tryz.underlying80 (by kernel_rfl) (.agg #[.pointer (some ⟨p, 0, none⟩)]) 68 w
  have hm := meth3level p
  clear x
  go_enter Tryz.func23, Tryz.ntmps23
  go_wp2_with fail
  refine C.mono ?_
  rintro e w1 hp
  have HP := Lib.hid hp
  obtain ⟨a, n, c, rfl⟩ := hp.told
  clear hp c0 hm ha
  go_wp2
  go_ret
  exact HP.out

set_option maxRecDepth 100000 in
set_option maxHeartbeats 1600000 in
theorem itemsNone (w : World) : Calls Tryz.prog 20 #[.pointer none] w fun e w' => e = .returned (.slice none 0 0) ∧ w = w' := by
  go_enter Tryz.func20, Tryz.ntmps20
  go_wp2
  go_ret
  exact ⟨rfl, rfl⟩

set_option maxRecDepth 100000 in
set_option maxHeartbeats 1600000 in
theorem lenNone (w : World) : Calls Tryz.prog 24 #[.pointer none] w fun e w' => e = .returned (.int .i64 0) ∧ w = w' := by
  go_enter Tryz.func24, Tryz.ntmps24
  go_wp2
  go_ret
  exact ⟨rfl, rfl⟩

set_option maxRecDepth 100000 in
set_option maxHeartbeats 1600000 in
theorem levelNone (w : World) (j : Int) : Calls Tryz.prog 23 #[.pointer none, .int .i64 j] w fun e w' => e = .returned (.slice none 0 0) ∧ w = w' := by
  go_enter Tryz.func23, Tryz.ntmps23
  go_wp2
  go_ret
  exact ⟨rfl, rfl⟩

set_option maxRecDepth 100000 in
set_option maxHeartbeats 1600000 in
theorem feedNone (w : World) (v : Value) : Calls Tryz.prog 16 #[.pointer none, v] w fun e w' => e = .returned (.tuple #[]) ∧ w = w' := by
  go_enter Tryz.func16, Tryz.ntmps16
  go_wp2
  go_end0
  exact ⟨rfl, rfl⟩

section
variable {w : World} {F : Nat → Prop} {o : Nat} {k m : Int} {pl : Bool} {s : List It × List Bool}
theorem obItems (h : Ob w F o k m pl s) : Calls Tryz.prog 20 #[.pointer (some ⟨o, 0, none⟩)] w (ToldR w (vals s.1)) := by
  obtain ⟨H, G, p, q, x, hh, _⟩ := h
  rcases hh with ⟨rfl, st⟩ | ⟨rfl, st⟩ | ⟨rfl, st⟩
  · exact items1 x ((K9.itemsAny st).mono fun _ _ h => K9.Told.reads h)
  · exact items2 x ((D10.itemsAny st).mono fun _ _ h => D10.Told.reads h)
  · exact items3 x (itemsR st.2)
theorem obLen (h : Ob w F o k m pl s) : Calls Tryz.prog 24 #[.pointer (some ⟨o, 0, none⟩)] w fun e w' => e = .returned (.int .i64 s.1.length) ∧ w = w' := by
  obtain ⟨H, G, p, q, x, hh, _⟩ := h
  rcases hh with ⟨rfl, st⟩ | ⟨rfl, st⟩ | ⟨rfl, st⟩
  · exact len1 x (by have := K9.lenAny st; rw [vals_length] at this; exact this)
  · exact len2 x (by have := D10.lenAny st; rw [vals_length] at this; exact this)
  · exact len3 x (lenAny st.2)
theorem obLevel (h : Ob w F o k m pl s) (j : Int) : Calls Tryz.prog 23 #[.pointer (some ⟨o, 0, none⟩), .int .i64 j] w (ToldR w (if k = 3 then lvlOf s.1 j else [])) := by
  obtain ⟨H, G, p, q, x, hh, _⟩ := h
  rcases hh with ⟨rfl, st⟩ | ⟨rfl, st⟩ | ⟨rfl, st⟩
  · exact (level1 x j).mono fun e w' ⟨he, hw⟩ => by subst he hw; exact toldR_none w
  · exact (level2 x j).mono fun e w' ⟨he, hw⟩ => by subst he hw; exact toldR_none w
  · exact level3 x j (levelR st.2 j)

set_option maxRecDepth 100000 in
set_option maxHeartbeats 4000000 in
theorem obFeed (h : Ob w F o k m pl s) (ao : Option Addr) (n cap : Nat) (xs : List Int) (hr : Reads .u8 w ao n xs) (hy : ∀ x ∈ xs, 0 ≤ x ∧ x ≤ 255) (hoff : 0 < n → Off F ao) (hn : n ≤ 1000000) :
    Calls Tryz.prog 16 #[.pointer (some ⟨o, 0, none⟩), .slice ao n cap] w fun e w' => e = .returned (.tuple #[]) ∧ DidB F o k m pl (s.1, feedL s.2 xs) w w' := by
  obtain ⟨H, G, p, q, x, hh, c, ap, n1, n2, f0, f1, f2, _⟩ := h
  have C := feedAny c (cap := cap) hr (fun hp a ha e => hoff hp a ha (f2 _ e)) hy hn
  have c1 := x.c1
  have HN := Lib.hid (fun w' (d : DidC G q (feedL s.2 xs) w w') => show DidB F o k m pl (s.1, feedL s.2 xs) w w' from by
    obtain ⟨G', c', wr, l⟩ := d
    obtain ⟨h1, h2, h3⟩ := Ob.next (s' := (s.1, feedL s.2 xs)) (H' := H) x n1 n2 f0 f1 f2 (hh.apart wr ap) c' (l.apart ap.symm hh.foot).symm (wr.into (fun g hg => .inr hg)) (Later.refl _ _) l
    exact ⟨_, h1, h2, h3⟩)
  clear x hh c ap n1 n2 f0 f1 f2 hr hy hoff
  go_enter Tryz.func16, Tryz.ntmps16
  go_wp2_with fail
  refine C.mono ?_
  rintro e w1 ⟨rfl, d⟩
  have HD := Lib.hid (HN.out w1 d)
  clear d HN C c1
  go_wp2
  go_end0
  exact ⟨rfl, HD.out⟩
end

end Go.Proofs.YtniefplgijpckaaGreat
