/-
  What Do of package object tells, and leaves, at every object: as by definition, a batch at once or one by one. Conditions: an object as Ob says; operations that lie in memory, beside it, at most a thousand.
-/
import Derived.Test.YtikaoikladbdpaaGreatG1716
import Derived.Test.YtikaoikladbdpaaGreatQTurn12m
namespace Go.Proofs.YtikaoikladbdpaaGreat
open Go.RowKit Go.Lib

def DoPost (w : World) (F : Nat → Prop) (o : Nat) (k m : Int) (pl : Bool) (s : List It × List Bool) (os : List (Int × Int)) (e : Ending) (w' : World) : Prop :=
  ∃ b F', e = .returned (.slice (some ⟨b, 0, none⟩) os.length os.length) ∧ RRow w' b (batT k m (vals s.1) os) ∧ w.heap.size ≤ b ∧ Ob w' F' o k m pl (objS k m s os) ∧ ¬ F' b ∧ Wrote F w w' ∧ Later F F' w

section
variable {w W w' : World} {F H G : Nat → Prop} {o p q n : Nat} {k m : Int} {pl : Bool} {s : List It × List Bool} {os : List (Int × Int)} {e : Ending} {zs : List Int}
theorem Ob.plainly {ST : World → (Nat → Prop) → Nat → Int → List Int → Prop} (hk : ¬ k = 3) (x : OBlk w o (holdV (tyOf k) p) q pl) (hH : ∀ g, H g → g < w.heap.size) (c : Coin w G q s.2) (ap : Apart H G) (n1 : ¬ H o) (n2 : ¬ G o) (f0 : F o) (f1 : ∀ g, H g → F g) (f2 : ∀ g, G g → F g)
    (hS : ∀ W H' zs, ST W H' p m zs → Held k W H' p m (flat0 zs)) (hp : HBat ST k w H p m (vals s.1) os e w') : DoPost w F o k m pl s os e w' := by
  obtain ⟨b, H', he, r, st, wr, l, hb, nb⟩ := hp
  have hh := hS _ _ _ st
  have e1 : objS k m s os = (flat0 (batZ k m (vals s.1) os), s.2) := objS_other hk
  obtain ⟨h1, h2, h3⟩ := Ob.next (s' := objS k m s os) x n1 n2 f0 f1 f2 (by rw [e1]; exact hh) (by rw [e1]; exact c.apart wr ap.symm) (l.apart ap (fun g hg => c.foot g hg)) (wr.into (fun g hg => .inl hg)) l (Later.refl _ _)
  refine ⟨b, _, he, r, hb, h1, fun e => ?_, h2, h3⟩
  rcases e with e | e | e
  · have := x.lt; omega
  · exact nb e
  · have := c.foot _ e; omega
theorem Ob.sorted (x : OBlk w o (holdV (tyOf 3) p) q pl) (n1 : ¬ H o) (n2 : ¬ G o) (f0 : F o) (f1 : ∀ g, H g → F g) (f2 : ∀ g, G g → F g)
    (hp : SrtPost w H G (some p) q m s os e w') : DoPost w F o 3 m pl s os e w' := by
  obtain ⟨b, H', G', he, r, hb, st, c, ap, nb, nc, wr, lH, lG⟩ := hp
  obtain ⟨h1, h2, h3⟩ := Ob.next (k := 3) (s' := objS 3 m s os) x n1 n2 f0 f1 f2 (.inr (.inr ⟨rfl, by rw [objS_heap]; exact st⟩)) (by rw [objS_heap]; exact c) ap wr lH lG
  refine ⟨b, _, he, r, hb, h1, fun e => ?_, h2, h3⟩
  rcases e with e | e | e
  · have := x.lt; omega
  · exact nb e
  · exact nc e
theorem DoPost.told (h : DoPost w F o k m pl s os e w') : ∃ v, e = .returned v := by obtain ⟨b, _, h, _⟩ := h; exact ⟨_, h⟩
theorem DoPost.from (hb : Below w.heap.size w W) (h : DoPost W F o k m pl s os e w') : DoPost w F o k m pl s os e w' := by
  obtain ⟨b, F', h1, h2, h3, h4, h5, h6, h7⟩ := h
  exact ⟨b, F', h1, h2, Nat.le_trans hb.size h3, h4, h5, (Wrote.of hb F).trans h6, fun g hg => (h7 g hg).imp id (fun h => Nat.le_trans hb.size h)⟩
end

theorem meth1batch (p : Nat) (w : World) : (method 404 135 (.agg #[.pointer (some ⟨p, 0, none⟩)]) "reaper/object.batch").run Tryz.prog w = .ok (156, .agg #[.pointer (some ⟨p, 0, none⟩)]) w := by kernel_rfl
set_option maxRecDepth 100000 in
set_option maxHeartbeats 8000000 in
theorem do1batch {w : World} {o p q n cap : Nat} {ao : Option Addr} {Q : Ending → World → Prop} (x : OBlk w o (holdV (tyOf 1) p) q false) (hQ : ∀ e w', Q e w' → ∃ v, e = .returned v)
    (C : Calls Tryz.prog 156 #[.agg #[.pointer (some ⟨p, 0, none⟩)], .pointer (some ⟨q, 0, none⟩), .slice ao n cap] w.drew Q) :
    Calls Tryz.prog 29 #[.pointer (some ⟨o, 0, none⟩), .slice ao n cap] w Q := by
  have c0 : w.cell? ⟨o, 0, none⟩ = some (.iface 135 (.agg #[.pointer (some ⟨p, 0, none⟩)])) := x.c0
  have c1 := x.c1
  have c2 := x.c2
  have hm := meth1batch p
  have HQ := Lib.hid hQ
  clear x hQ
  go_enter Tryz.func29, Tryz.ntmps29
  go_wp2
  go_region_with (go_at_call 156; refine C.mono ?_; rintro e w1 hp; have HP := Lib.hid hp; obtain ⟨v, rfl⟩ := HQ.out _ _ hp; clear hp)
  all_goals
    go_wp2
    go_ret
    exact HP.out

theorem meth1each (p : Nat) (w : World) : (method 404 135 (.agg #[.pointer (some ⟨p, 0, none⟩)]) "reaper/object.each").run Tryz.prog w = .ok (157, .agg #[.pointer (some ⟨p, 0, none⟩)]) w := by kernel_rfl
set_option maxRecDepth 100000 in
set_option maxHeartbeats 8000000 in
theorem do1each {w : World} {o p q n cap : Nat} {ao : Option Addr} {Q : Ending → World → Prop} (x : OBlk w o (holdV (tyOf 1) p) q true) (hQ : ∀ e w', Q e w' → ∃ v, e = .returned v)
    (C : Calls Tryz.prog 157 #[.agg #[.pointer (some ⟨p, 0, none⟩)], .pointer (some ⟨q, 0, none⟩), .slice ao n cap] w.drew Q) :
    Calls Tryz.prog 29 #[.pointer (some ⟨o, 0, none⟩), .slice ao n cap] w Q := by
  have c0 : w.cell? ⟨o, 0, none⟩ = some (.iface 135 (.agg #[.pointer (some ⟨p, 0, none⟩)])) := x.c0
  have c1 := x.c1
  have c2 := x.c2
  have hm := meth1each p
  have HQ := Lib.hid hQ
  clear x hQ
  go_enter Tryz.func29, Tryz.ntmps29
  go_wp2
  go_region_with (go_at_call 157; refine C.mono ?_; rintro e w1 hp; have HP := Lib.hid hp; obtain ⟨v, rfl⟩ := HQ.out _ _ hp; clear hp)
  all_goals
    go_wp2
    go_ret
    exact HP.out

theorem meth2batch (p : Nat) (w : World) : (method 404 139 (.agg #[.pointer (some ⟨p, 0, none⟩)]) "reaper/object.batch").run Tryz.prog w = .ok (181, .agg #[.pointer (some ⟨p, 0, none⟩)]) w := by kernel_rfl
set_option maxRecDepth 100000 in
set_option maxHeartbeats 8000000 in
theorem do2batch {w : World} {o p q n cap : Nat} {ao : Option Addr} {Q : Ending → World → Prop} (x : OBlk w o (holdV (tyOf 2) p) q false) (hQ : ∀ e w', Q e w' → ∃ v, e = .returned v)
    (C : Calls Tryz.prog 181 #[.agg #[.pointer (some ⟨p, 0, none⟩)], .pointer (some ⟨q, 0, none⟩), .slice ao n cap] w.drew Q) :
    Calls Tryz.prog 29 #[.pointer (some ⟨o, 0, none⟩), .slice ao n cap] w Q := by
  have c0 : w.cell? ⟨o, 0, none⟩ = some (.iface 139 (.agg #[.pointer (some ⟨p, 0, none⟩)])) := x.c0
  have c1 := x.c1
  have c2 := x.c2
  have hm := meth2batch p
  have HQ := Lib.hid hQ
  clear x hQ
  go_enter Tryz.func29, Tryz.ntmps29
  go_wp2
  go_region_with (go_at_call 181; refine C.mono ?_; rintro e w1 hp; have HP := Lib.hid hp; obtain ⟨v, rfl⟩ := HQ.out _ _ hp; clear hp)
  all_goals
    go_wp2
    go_ret
    exact HP.out

theorem meth2each (p : Nat) (w : World) : (method 404 139 (.agg #[.pointer (some ⟨p, 0, none⟩)]) "reaper/object.each").run Tryz.prog w = .ok (182, .agg #[.pointer (some ⟨p, 0, none⟩)]) w := by kernel_rfl
set_option maxRecDepth 100000 in
set_option maxHeartbeats 8000000 in
theorem do2each {w : World} {o p q n cap : Nat} {ao : Option Addr} {Q : Ending → World → Prop} (x : OBlk w o (holdV (tyOf 2) p) q true) (hQ : ∀ e w', Q e w' → ∃ v, e = .returned v)
    (C : Calls Tryz.prog 182 #[.agg #[.pointer (some ⟨p, 0, none⟩)], .pointer (some ⟨q, 0, none⟩), .slice ao n cap] w.drew Q) :
    Calls Tryz.prog 29 #[.pointer (some ⟨o, 0, none⟩), .slice ao n cap] w Q := by
  have c0 : w.cell? ⟨o, 0, none⟩ = some (.iface 139 (.agg #[.pointer (some ⟨p, 0, none⟩)])) := x.c0
  have c1 := x.c1
  have c2 := x.c2
  have hm := meth2each p
  have HQ := Lib.hid hQ
  clear x hQ
  go_enter Tryz.func29, Tryz.ntmps29
  go_wp2
  go_region_with (go_at_call 182; refine C.mono ?_; rintro e w1 hp; have HP := Lib.hid hp; obtain ⟨v, rfl⟩ := HQ.out _ _ hp; clear hp)
  all_goals
    go_wp2
    go_ret
    exact HP.out

theorem meth3batch (p : Nat) (w : World) : (method 404 143 (.agg #[.pointer (some ⟨p, 0, none⟩)]) "reaper/object.batch").run Tryz.prog w = .ok (211, .agg #[.pointer (some ⟨p, 0, none⟩)]) w := by kernel_rfl
set_option maxRecDepth 100000 in
set_option maxHeartbeats 8000000 in
theorem do3batch {w : World} {o p q n cap : Nat} {ao : Option Addr} {Q : Ending → World → Prop} (x : OBlk w o (holdV (tyOf 3) p) q false) (hQ : ∀ e w', Q e w' → ∃ v, e = .returned v)
    (C : Calls Tryz.prog 211 #[.agg #[.pointer (some ⟨p, 0, none⟩)], .pointer (some ⟨q, 0, none⟩), .slice ao n cap] w.drew Q) :
    Calls Tryz.prog 29 #[.pointer (some ⟨o, 0, none⟩), .slice ao n cap] w Q := by
  have c0 : w.cell? ⟨o, 0, none⟩ = some (.iface 143 (.agg #[.pointer (some ⟨p, 0, none⟩)])) := x.c0
  have c1 := x.c1
  have c2 := x.c2
  have hm := meth3batch p
  have HQ := Lib.hid hQ
  clear x hQ
  go_enter Tryz.func29, Tryz.ntmps29
  go_wp2
  go_region_with (go_at_call 211; refine C.mono ?_; rintro e w1 hp; have HP := Lib.hid hp; obtain ⟨v, rfl⟩ := HQ.out _ _ hp; clear hp)
  all_goals
    go_wp2
    go_ret
    exact HP.out

theorem meth3each (p : Nat) (w : World) : (method 404 143 (.agg #[.pointer (some ⟨p, 0, none⟩)]) "reaper/object.each").run Tryz.prog w = .ok (212, .agg #[.pointer (some ⟨p, 0, none⟩)]) w := by kernel_rfl
set_option maxRecDepth 100000 in
set_option maxHeartbeats 8000000 in
theorem do3each {w : World} {o p q n cap : Nat} {ao : Option Addr} {Q : Ending → World → Prop} (x : OBlk w o (holdV (tyOf 3) p) q true) (hQ : ∀ e w', Q e w' → ∃ v, e = .returned v)
    (C : Calls Tryz.prog 212 #[.agg #[.pointer (some ⟨p, 0, none⟩)], .pointer (some ⟨q, 0, none⟩), .slice ao n cap] w.drew Q) :
    Calls Tryz.prog 29 #[.pointer (some ⟨o, 0, none⟩), .slice ao n cap] w Q := by
  have c0 : w.cell? ⟨o, 0, none⟩ = some (.iface 143 (.agg #[.pointer (some ⟨p, 0, none⟩)])) := x.c0
  have c1 := x.c1
  have c2 := x.c2
  have hm := meth3each p
  have HQ := Lib.hid hQ
  clear x hQ
  go_enter Tryz.func29, Tryz.ntmps29
  go_wp2
  go_region_with (go_at_call 212; refine C.mono ?_; rintro e w1 hp; have HP := Lib.hid hp; obtain ⟨v, rfl⟩ := HQ.out _ _ hp; clear hp)
  all_goals
    go_wp2
    go_ret
    exact HP.out

set_option maxRecDepth 100000 in
set_option maxHeartbeats 1600000 in
theorem doNone (w : World) (v : Value) : Calls Tryz.prog 29 #[.pointer none, v] w fun e w' => e = .returned (.slice none 0 0) ∧ w = w' := by
  go_enter Tryz.func29, Tryz.ntmps29
  go_wp2
  go_ret
  exact ⟨rfl, rfl⟩

theorem obDo {w : World} {F : Nat → Prop} {o n : Nat} {k m : Int} {pl : Bool} {s : List It × List Bool} {os : List (Int × Int)} (h : Ob w F o k m pl s) (ao : Option Addr) (cap : Nat) (ho : OpsAt w ao n os) (hoF : 0 < n → Off F ao) (hok : ∀ o ∈ os, OpOk o) (hn : n ≤ 1000) :
    Calls Tryz.prog 29 #[.pointer (some ⟨o, 0, none⟩), .slice ao n cap] w (DoPost w F o k m pl s os) := by
  obtain ⟨H, G, p, q, x, hh, c, ap, n1, n2, f0, f1, f2, _⟩ := h
  have bd : Below w.heap.size w w.drew := (Below.refl _ _).drew
  have od := ho.keep bd
  have oH : 0 < n → Off H ao := fun hp a ha e => hoF hp a ha (f1 _ e)
  have oG : 0 < n → Off G ao := fun hp a ha e => hoF hp a ha (f2 _ e)
  have xd : OBlk w.drew o (holdV (tyOf k) p) q pl := x
  have cd := c.fresh bd
  rcases hh with ⟨rfl, st⟩ | ⟨rfl, st⟩ | ⟨rfl, st⟩
  · have sd := st.fresh bd
    have hS : ∀ W H' zs, K9.Stk W H' p m zs → Held 1 W H' p m (flat0 zs) := fun W H' zs h => .inl ⟨rfl, by rw [vals_flat0]; exact h⟩
    cases pl
    · exact do1batch x (fun _ _ h => h.told) ((pileDoes sd _ ao cap od oH (by omega)).mono fun e w' hp => DoPost.from bd (Ob.plainly (by decide) xd sd.foot cd ap n1 n2 f0 f1 f2 hS hp))
    · exact do1each x (fun _ _ h => h.told) ((pileEach sd _ ao cap od oH hok (by omega)).mono fun e w' hp => DoPost.from bd (Ob.plainly (by decide) xd sd.foot cd ap n1 n2 f0 f1 f2 hS hp))
  · have sd := st.fresh bd
    have hS : ∀ W H' zs, D10.Rng W H' p m zs → Held 2 W H' p m (flat0 zs) := fun W H' zs h => .inr (.inl ⟨rfl, by rw [vals_flat0]; exact h⟩)
    cases pl
    · exact do2batch x (fun _ _ h => h.told) ((rowDoes sd _ ao cap od oH (by omega)).mono fun e w' hp => DoPost.from bd (Ob.plainly (by decide) xd sd.foot cd ap n1 n2 f0 f1 f2 hS hp))
    · exact do2each x (fun _ _ h => h.told) ((rowEach sd _ ao cap od oH hok (by omega)).mono fun e w' hp => DoPost.from bd (Ob.plainly (by decide) xd sd.foot cd ap n1 n2 f0 f1 f2 hS hp))
  · have sd := st.fresh bd
    cases pl
    · exact do3batch x (fun _ _ h => h.told) ((heapBatch sd cd ap ao cap od oH oG hn).mono fun e w' hp => DoPost.from bd (Ob.sorted xd n1 n2 f0 f1 f2 hp))
    · exact do3each x (fun _ _ h => h.told) ((heapEach sd cd ap ao cap od oH oG hn).mono fun e w' hp => DoPost.from bd (Ob.sorted xd n1 n2 f0 f1 f2 hp))

end Go.Proofs.YtikaoikladbdpaaGreat
