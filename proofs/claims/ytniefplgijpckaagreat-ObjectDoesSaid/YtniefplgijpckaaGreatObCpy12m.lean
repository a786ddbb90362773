/-
  What Copy of package object makes, at every object and at nil: one that is the same, in new memory. Conditions: an object as Ob says.
-/
import Derived.Test.YtniefplgijpckaaGreatObA12
import Derived.Test.YtniefplgijpckaaGreatKB12
import Derived.Test.YtniefplgijpckaaGreatDA12
import Derived.Test.YtniefplgijpckaaGreatHoB12
namespace Go.Proofs.YtniefplgijpckaaGreat
open Go.RowKit Go.Lib

/-- What a holder's copy is. -/
def Again (w : World) (k m : Int) (l : List It) (e : Ending) (w' : World) : Prop := ∃ p H, e = .returned (holdV (tyOf k) p) ∧ (∀ g, H g → w.heap.size ≤ g) ∧ Held k w' H p m l ∧ Below w.heap.size w w'
section
variable {w W w' w1 w2 : World} {F H G : Nat → Prop} {o p q : Nat} {k m : Int} {pl : Bool} {l : List It} {bs : List Bool} {e : Ending}
theorem Again.from (hb : Below w.heap.size w W) (h : Again W k m l e w') : Again w k m l e w' := by
  obtain ⟨p, H, h1, h2, h3, h4⟩ := h
  exact ⟨p, H, h1, fun g hg => Nat.le_trans hb.size (h2 g hg), h3, hb.trans (h4.mono hb.size)⟩
/-- An object in its box, out of a new holder and a new coin. -/
theorem Ob.box (b : Below w.heap.size w w2) (h : Held k w2 H p m l) (c : Coin w2 G q bs) (ap : Apart H G) (nH : ∀ g, H g → w.heap.size ≤ g) (nG : ∀ g, G g → w.heap.size ≤ g) (pl : Bool) :
    ∀ W, w2.alloc (.cells #[holdV (tyOf k) p, .pointer (some ⟨q, 0, none⟩), .bool pl] 72) = W → ObNew w k m pl (l, bs) (.returned (.pointer (some ⟨w2.heap.size, 0, none⟩))) W := by
  rintro W rfl
  have s0 := b.size
  have hb : Below w2.heap.size w2 (w2.alloc (.cells #[holdV (tyOf k) p, .pointer (some ⟨q, 0, none⟩), .bool pl] 72)) := (Below.refl _ _).alloc (Nat.le_refl _) _
  have sz : (w2.alloc (.cells #[holdV (tyOf k) p, .pointer (some ⟨q, 0, none⟩), .bool pl] 72)).heap.size = w2.heap.size + 1 := by simp
  refine ⟨_, rfl, ⟨H, G, p, q, OBlk.new w2 _ q pl, h.apart (Wrote.of hb (fun _ => False)) (fun _ _ h => h), c.fresh hb, ap, fun a => ?_, fun a => ?_, ⟨?_, ?_⟩, fun g a => ⟨nH g a, ?_⟩, fun g a => ⟨nG g a, ?_⟩, fun g a => a.2⟩, b.trans (hb.mono s0)⟩
  · have := h.foot _ a; omega
  · have := c.foot _ a; omega
  · omega
  · omega
  · have := h.foot _ a; omega
  · have := c.foot _ a; omega
theorem cellNew {a : Addr} {v : Value} (h : w.cell? a = some v) (x : Obj) : (w.alloc x).cell? a = some v := by
  have hl := World.block_lt_of_cell? w _ h
  exact ((Below.refl w.heap.size w).alloc (Nat.le_refl _) x).cell hl ▸ h
end

set_option maxRecDepth 100000 in
set_option maxHeartbeats 4000000 in
theorem again1 {w : World} {H : Nat → Prop} {p : Nat} {m : Int} {l : List It} (h : K9.Stk w H p m (vals l)) :
    Calls Tryz.prog 72 #[.agg #[.pointer (some ⟨p, 0, none⟩)]] w (Again w 1 m l) := by
  have HX := Lib.hid (fun W (hb : Below w.heap.size w W) => K9.copyAny (h.fresh hb))
  clear h
  go_enter Tryz.func72, Tryz.ntmps72
  go_upto_region 1 with (fail)
  generalize hW : w.alloc (.cells #[.pointer (some ⟨p, 0, none⟩)] 92) = W
  obtain ⟨hb, c0⟩ := holdBox w p _ W hW
  have C := HX.out W hb
  have HB := Lib.hid hb
  clear HX hW hb
  go_wp2_with fail
  refine C.mono ?_
  clear C c0
  rintro e w1 ⟨p', rfl, s, b1⟩
  have HA := Lib.hid (Again.from HB.out (show Again W 1 m l (.returned (holdV (tyOf 1) p')) w1 from ⟨p', _, rfl, fun g hg => hg.1, .inl ⟨rfl, s⟩, b1⟩))
  clear s b1
  go_wp2
  go_ret
  exact HA.out
theorem meth1again (p : Nat) (w : World) : (method 327 92 (.agg #[.pointer (some ⟨p, 0, none⟩)]) "reaper/object.again").run Tryz.prog w = .ok (72, .agg #[.pointer (some ⟨p, 0, none⟩)]) w := by kernel_rfl
set_option maxRecDepth 100000 in
set_option maxHeartbeats 8000000 in
theorem copy1 {w : World} {G : Nat → Prop} {o p q : Nat} {m : Int} {pl : Bool} {l : List It} {bs : List Bool} (x : OBlk w o (holdV (tyOf 1) p) q pl) (C : Calls Tryz.prog 72 #[.agg #[.pointer (some ⟨p, 0, none⟩)]] w.drew (Again w 1 m l)) (c : Coin w G q bs) :
    Calls Tryz.prog 22 #[.pointer (some ⟨o, 0, none⟩)] w (ObNew w 1 m pl (l, bs)) := by
  have c0 : w.cell? ⟨o, 0, none⟩ = some (.iface 92 (.agg #[.pointer (some ⟨p, 0, none⟩)])) := x.c0
  have c1 := x.c1
  have c2 := x.c2
  have hm := meth1again p
  have HK := Lib.hid (fun W (hb : Below w.heap.size w W) => And.intro (show W.cell? ⟨o, 0, none⟩ = some (.iface 92 (.agg #[.pointer (some ⟨p, 0, none⟩)])) from (hb.cell (p := ⟨o, 0, none⟩) x.lt).trans c0) (And.intro ((hb.cell (p := ⟨o, 1, none⟩) x.lt).trans c1) ((hb.cell (p := ⟨o, 2, none⟩) x.lt).trans c2)))
  have HC := Lib.hid (fun W (hb : Below w.heap.size w W) => copyAnyC (c.fresh hb))
  have hl := x.lt
  clear x c
  go_enter Tryz.func22, Tryz.ntmps22
  go_wp2
  go_region_held3 (fun w' => w'.cell? ⟨o, 0, none⟩ = some (.iface 92 (.agg #[.pointer (some ⟨p, 0, none⟩)])) ∧ w'.cell? ⟨o, 1, none⟩ = some (.pointer (some ⟨q, 0, none⟩)) ∧ w'.cell? ⟨o, 2, none⟩ = some (.bool pl)) (first | exact ⟨c0, c1, c2⟩ | exact ⟨z0, z1, z2⟩ | exact ⟨y0, y1, y2⟩ | exact ⟨cellNew y0 _, cellNew y1 _, cellNew y2 _⟩) (first
    | (go_at_call 72; refine C.mono ?_; rintro e w1 hp; obtain ⟨p', H', he, hp⟩ := hp; obtain rfl : e = .returned (.iface 92 (.agg #[.pointer (some ⟨p', 0, none⟩)])) := he; have HP := Lib.hid hp; obtain ⟨z0, z1, z2⟩ := HK.out w1 hp.2.2; have D := HC.out w1 hp.2.2; clear hp)
    | (go_at_call 34; refine D.mono ?_; rintro e w2 hq; obtain ⟨q', rfl, hq⟩ := hq; have HQ := Lib.hid hq; obtain ⟨y0, y1, y2⟩ := HK.out w2 (HP.out.2.2.trans (hq.2.mono HP.out.2.2.size)); clear hq))
  have HE := Lib.hid (Ob.box (k := 1) (m := m) (l := l) (bs := bs) (H := H') (HP.out.2.2.trans (HQ.out.2.mono HP.out.2.2.size)) (HP.out.2.1.apart (Wrote.of HQ.out.2 (fun _ => False)) (fun _ _ h => h)) HQ.out.1 (fun g a b => by have := HP.out.2.1.foot _ a; have := b.1; omega) HP.out.1 (fun g a => Nat.le_trans HP.out.2.2.size a.1) pl _ rfl)
  go_wp2
  go_ret
  exact HE.out

set_option maxRecDepth 100000 in
set_option maxHeartbeats 4000000 in
theorem again2 {w : World} {H : Nat → Prop} {p : Nat} {m : Int} {l : List It} (h : D10.Rng w H p m (vals l)) :
    Calls Tryz.prog 98 #[.agg #[.pointer (some ⟨p, 0, none⟩)]] w (Again w 2 m l) := by
  have HX := Lib.hid (fun W (hb : Below w.heap.size w W) => D10.copyAny (h.fresh hb))
  clear h
  go_enter Tryz.func98, Tryz.ntmps98
  go_upto_region 1 with (fail)
  generalize hW : w.alloc (.cells #[.pointer (some ⟨p, 0, none⟩)] 96) = W
  obtain ⟨hb, c0⟩ := holdBox w p _ W hW
  have C := HX.out W hb
  have HB := Lib.hid hb
  clear HX hW hb
  go_wp2_with fail
  refine C.mono ?_
  clear C c0
  rintro e w1 ⟨p', rfl, s, b1⟩
  have HA := Lib.hid (Again.from HB.out (show Again W 2 m l (.returned (holdV (tyOf 2) p')) w1 from ⟨p', _, rfl, fun g hg => hg.1, .inr (.inl ⟨rfl, s⟩), b1⟩))
  clear s b1
  go_wp2
  go_ret
  exact HA.out
theorem meth2again (p : Nat) (w : World) : (method 327 96 (.agg #[.pointer (some ⟨p, 0, none⟩)]) "reaper/object.again").run Tryz.prog w = .ok (98, .agg #[.pointer (some ⟨p, 0, none⟩)]) w := by kernel_rfl
set_option maxRecDepth 100000 in
set_option maxHeartbeats 8000000 in
theorem copy2 {w : World} {G : Nat → Prop} {o p q : Nat} {m : Int} {pl : Bool} {l : List It} {bs : List Bool} (x : OBlk w o (holdV (tyOf 2) p) q pl) (C : Calls Tryz.prog 98 #[.agg #[.pointer (some ⟨p, 0, none⟩)]] w.drew (Again w 2 m l)) (c : Coin w G q bs) :
    Calls Tryz.prog 22 #[.pointer (some ⟨o, 0, none⟩)] w (ObNew w 2 m pl (l, bs)) := by
  have c0 : w.cell? ⟨o, 0, none⟩ = some (.iface 96 (.agg #[.pointer (some ⟨p, 0, none⟩)])) := x.c0
  have c1 := x.c1
  have c2 := x.c2
  have hm := meth2again p
  have HK := Lib.hid (fun W (hb : Below w.heap.size w W) => And.intro (show W.cell? ⟨o, 0, none⟩ = some (.iface 96 (.agg #[.pointer (some ⟨p, 0, none⟩)])) from (hb.cell (p := ⟨o, 0, none⟩) x.lt).trans c0) (And.intro ((hb.cell (p := ⟨o, 1, none⟩) x.lt).trans c1) ((hb.cell (p := ⟨o, 2, none⟩) x.lt).trans c2)))
  have HC := Lib.hid (fun W (hb : Below w.heap.size w W) => copyAnyC (c.fresh hb))
  have hl := x.lt
  clear x c
  go_enter Tryz.func22, Tryz.ntmps22
  go_wp2
  go_region_held3 (fun w' => w'.cell? ⟨o, 0, none⟩ = some (.iface 96 (.agg #[.pointer (some ⟨p, 0, none⟩)])) ∧ w'.cell? ⟨o, 1, none⟩ = some (.pointer (some ⟨q, 0, none⟩)) ∧ w'.cell? ⟨o, 2, none⟩ = some (.bool pl)) (first | exact ⟨c0, c1, c2⟩ | exact ⟨z0, z1, z2⟩ | exact ⟨y0, y1, y2⟩ | exact ⟨cellNew y0 _, cellNew y1 _, cellNew y2 _⟩) (first
    | (go_at_call 98; refine C.mono ?_; rintro e w1 hp; obtain ⟨p', H', he, hp⟩ := hp; obtain rfl : e = .returned (.iface 96 (.agg #[.pointer (some ⟨p', 0, none⟩)])) := he; have HP := Lib.hid hp; obtain ⟨z0, z1, z2⟩ := HK.out w1 hp.2.2; have D := HC.out w1 hp.2.2; clear hp)
    | (go_at_call 34; refine D.mono ?_; rintro e w2 hq; obtain ⟨q', rfl, hq⟩ := hq; have HQ := Lib.hid hq; obtain ⟨y0, y1, y2⟩ := HK.out w2 (HP.out.2.2.trans (hq.2.mono HP.out.2.2.size)); clear hq))
  have HE := Lib.hid (Ob.box (k := 2) (m := m) (l := l) (bs := bs) (H := H') (HP.out.2.2.trans (HQ.out.2.mono HP.out.2.2.size)) (HP.out.2.1.apart (Wrote.of HQ.out.2 (fun _ => False)) (fun _ _ h => h)) HQ.out.1 (fun g a b => by have := HP.out.2.1.foot _ a; have := b.1; omega) HP.out.1 (fun g a => Nat.le_trans HP.out.2.2.size a.1) pl _ rfl)
  go_wp2
  go_ret
  exact HE.out

set_option maxRecDepth 100000 in
set_option maxHeartbeats 4000000 in
theorem again3 {w : World} {H : Nat → Prop} {p : Nat} {m : Int} {l : List It} (h : SkO w H (some p) m l) :
    Calls Tryz.prog 129 #[.agg #[.pointer (some ⟨p, 0, none⟩)]] w (Again w 3 m l) := by
  have HX := Lib.hid (fun W (hb : Below w.heap.size w W) => copyAnyS (h.fresh hb).2)
  clear h
  go_enter Tryz.func129, Tryz.ntmps129
  go_upto_region 1 with (fail)
  generalize hW : w.alloc (.cells #[.pointer (some ⟨p, 0, none⟩)] 100) = W
  obtain ⟨hb, c0⟩ := holdBox w p _ W hW
  have C := HX.out W hb
  have HB := Lib.hid hb
  clear HX hW hb
  go_wp2_with fail
  refine C.mono ?_
  clear C c0
  rintro e w1 ⟨p', rfl, s, b1⟩
  have HA := Lib.hid (Again.from HB.out (show Again W 3 m l (.returned (holdV (tyOf 3) p')) w1 from ⟨p', _, rfl, fun g hg => hg.1, .inr (.inr ⟨rfl, SkO.of s⟩), b1⟩))
  clear s b1
  go_wp2
  go_ret
  exact HA.out
theorem meth3again (p : Nat) (w : World) : (method 327 100 (.agg #[.pointer (some ⟨p, 0, none⟩)]) "reaper/object.again").run Tryz.prog w = .ok (129, .agg #[.pointer (some ⟨p, 0, none⟩)]) w := by kernel_rfl
set_option maxRecDepth 100000 in
set_option maxHeartbeats 8000000 in
theorem copy3 {w : World} {G : Nat → Prop} {o p q : Nat} {m : Int} {pl : Bool} {l : List It} {bs : List Bool} (x : OBlk w o (holdV (tyOf 3) p) q pl) (C : Calls Tryz.prog 129 #[.agg #[.pointer (some ⟨p, 0, none⟩)]] w.drew (Again w 3 m l)) (c : Coin w G q bs) :
    Calls Tryz.prog 22 #[.pointer (some ⟨o, 0, none⟩)] w (ObNew w 3 m pl (l, bs)) := by
  have c0 : w.cell? ⟨o, 0, none⟩ = some (.iface 100 (.agg #[.pointer (some ⟨p, 0, none⟩)])) := x.c0
  have c1 := x.c1
  have c2 := x.c2
  have hm := meth3again p
  have HK := Lib.hid (fun W (hb : Below w.heap.size w W) => And.intro (show W.cell? ⟨o, 0, none⟩ = some (.iface 100 (.agg #[.pointer (some ⟨p, 0, none⟩)])) from (hb.cell (p := ⟨o, 0, none⟩) x.lt).trans c0) (And.intro ((hb.cell (p := ⟨o, 1, none⟩) x.lt).trans c1) ((hb.cell (p := ⟨o, 2, none⟩) x.lt).trans c2)))
  have HC := Lib.hid (fun W (hb : Below w.heap.size w W) => copyAnyC (c.fresh hb))
  have hl := x.lt
  clear x c
  go_enter Tryz.func22, Tryz.ntmps22
  go_wp2
  go_region_held3 (fun w' => w'.cell? ⟨o, 0, none⟩ = some (.iface 100 (.agg #[.pointer (some ⟨p, 0, none⟩)])) ∧ w'.cell? ⟨o, 1, none⟩ = some (.pointer (some ⟨q, 0, none⟩)) ∧ w'.cell? ⟨o, 2, none⟩ = some (.bool pl)) (first | exact ⟨c0, c1, c2⟩ | exact ⟨z0, z1, z2⟩ | exact ⟨y0, y1, y2⟩ | exact ⟨cellNew y0 _, cellNew y1 _, cellNew y2 _⟩) (first
    | (go_at_call 129; refine C.mono ?_; rintro e w1 hp; obtain ⟨p', H', he, hp⟩ := hp; obtain rfl : e = .returned (.iface 100 (.agg #[.pointer (some ⟨p', 0, none⟩)])) := he; have HP := Lib.hid hp; obtain ⟨z0, z1, z2⟩ := HK.out w1 hp.2.2; have D := HC.out w1 hp.2.2; clear hp)
    | (go_at_call 34; refine D.mono ?_; rintro e w2 hq; obtain ⟨q', rfl, hq⟩ := hq; have HQ := Lib.hid hq; obtain ⟨y0, y1, y2⟩ := HK.out w2 (HP.out.2.2.trans (hq.2.mono HP.out.2.2.size)); clear hq))
  have HE := Lib.hid (Ob.box (k := 3) (m := m) (l := l) (bs := bs) (H := H') (HP.out.2.2.trans (HQ.out.2.mono HP.out.2.2.size)) (HP.out.2.1.apart (Wrote.of HQ.out.2 (fun _ => False)) (fun _ _ h => h)) HQ.out.1 (fun g a b => by have := HP.out.2.1.foot _ a; have := b.1; omega) HP.out.1 (fun g a => Nat.le_trans HP.out.2.2.size a.1) pl _ rfl)
  go_wp2
  go_ret
  exact HE.out

set_option maxRecDepth 100000 in
set_option maxHeartbeats 1600000 in
theorem copyNone (w : World) : Calls Tryz.prog 22 #[.pointer none] w fun e w' => e = .returned (.pointer none) ∧ w = w' := by
  go_enter Tryz.func22, Tryz.ntmps22
  go_wp2
  go_ret
  exact ⟨rfl, rfl⟩

theorem obCopy {w : World} {F : Nat → Prop} {o : Nat} {k m : Int} {pl : Bool} {s : List It × List Bool} (h : Ob w F o k m pl s) :
    Calls Tryz.prog 22 #[.pointer (some ⟨o, 0, none⟩)] w (ObNew w k m pl s) := by
  obtain ⟨H, G, p, q, x, hh, c, _⟩ := h
  have bd : Below w.heap.size w w.drew := (Below.refl _ _).drew
  rcases hh with ⟨rfl, st⟩ | ⟨rfl, st⟩ | ⟨rfl, st⟩
  · exact copy1 x ((again1 (st.fresh bd)).mono fun _ _ h => Again.from bd h) c
  · exact copy2 x ((again2 (st.fresh bd)).mono fun _ _ h => Again.from bd h) c
  · exact copy3 x ((again3 (st.fresh bd)).mono fun _ _ h => Again.from bd h) c

end Go.Proofs.YtniefplgijpckaaGreat
