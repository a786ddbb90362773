/-
  What Apply of package ends tells, and leaves, at every deque and at nil: as one by one. Conditions: a deque as RngO says; operations that lie in memory, beside it, at most a million.
-/
import Derived.Test.YtafocplahmfghaaCome10
namespace Go.Proofs.Ytafocplahmfghaa
open Go.RowKit

theorem ComePost.from {w w1 w' : World} {F : Nat → Prop} {sp : Option Nat} {most : Int} {zs : List Int} {os : List (Int × Int)} {n : Nat} {e : Ending} (hb : Below w.heap.size w w1) (h : ComePost w1 F sp most zs os n e w') : ComePost w F sp most zs os n e w' := by
  obtain ⟨gt, F', he, r, s, wr, l, g, hn, hs⟩ := h
  exact ⟨gt, F', he, r, s, (Wrote.of hb F).trans wr, fun g hg => (l g hg).imp id (fun h => Nat.le_trans hb.size h), Nat.le_trans hb.size g, hn, hs⟩

set_option maxRecDepth 100000 in
set_option maxHeartbeats 3200000 in
theorem applyAny {w : World} {F : Nat → Prop} {sp : Option Nat} {most : Int} {zs : List Int} (h : RngO w F sp most zs) (hF : ∀ g, F g → g < w.heap.size) (ao : Option Addr) (n cap : Nat) (os : List (Int × Int)) (ho : OpsAt w ao n os) (hoff : 0 < n → Off F ao) (hn : n ≤ 1000000) :
    Calls Try.prog 17 #[.pointer (ptrO sp), .slice ao n cap] w (ComePost w F sp most zs os n) := by
  obtain ⟨hz, h0, hm⟩ := h.room
  have L := lenO h
  have M := mostO h
  have C := pairsAny w zs.length most ao n cap os ho hn
  rw [mostOf_self most h0 (by omega), show haveOf zs.length most = (zs.length : Int) by unfold haveOf; rw [if_neg (by omega), if_neg (by omega)]] at C
  have HX := Lib.hid (fun w1 (gw gc : Nat) (b1 : Below w.heap.size w w1) (r1 : Rw w1 gw .i64 3 (psA most zs os n)) (r2 : Rw w1 gc .u8 5 (dcL most (olds zs.length) (kindsOf os) n)) (l1 : w.heap.size ≤ gw) (l2 : w.heap.size ≤ gc) =>
    (comeAny (h.fresh b1) (fun g hg => Nat.lt_of_lt_of_le (hF g hg) b1.size) ao n cap gw gc os (ho.keep b1) hoff hn r1 r2 (fun e => by have := hF _ e; omega) (fun e => by have := hF _ e; omega)).mono fun e w' hp => ComePost.from b1 hp)
  clear h hF ho hoff hz h0
  go_enter Try.func17, Try.ntmps17
  go_wp2_with fail
  refine L.mono ?_
  clear L
  rintro e w1 ⟨rfl, rfl⟩
  go_wp2_with fail
  refine M.mono ?_
  clear M
  rintro e w1 ⟨rfl, rfl⟩
  go_wp2_with fail
  refine C.mono ?_
  clear C
  rintro e w1 ⟨gw, gc, rfl, r1, r2, l1, l2, _, b1⟩
  have C := HX.out w1 gw gc b1 r1 r2 l1 l2
  clear HX r1 r2 l1 l2 b1
  go_wp2_with fail
  refine C.mono ?_
  clear C
  rintro e w2 hp
  have he := hp
  obtain ⟨gt, F', rfl, _⟩ := he
  have HP := Lib.hid hp
  clear hp
  go_wp2
  go_ret
  exact HP.out

end Go.Proofs.Ytafocplahmfghaa
