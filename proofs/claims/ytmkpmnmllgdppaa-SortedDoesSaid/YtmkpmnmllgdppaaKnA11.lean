/-
  A list, or none, and a coin in a walk, between the calls; the example that every statement asks ('known'). Conditions: lists and coins as PrAt says. Blocks aside of a list and a coin; a list that is filled with bytes; batches of none and of one; what is told at a place. Conditions: none.
-/
import Derived.Test.YtmkpmnmllgdppaaAppC11
import Derived.Test.YtmkpmnmllgdppaaBasB11
namespace Go.Proofs.Ytmkpmnmllgdppaa
open Go.RowKit Go.Lib

/-- A list, or none, and a coin, whose blocks are all new, and nothing old is touched. -/
structure PrAt (w : World) (F G : Nat → Prop) (sp : Option Nat) (q : Nat) (m : Int) (s : List It × List Bool) (a : World) : Prop where
  sk : SkO a F sp m s.1
  co : Coin a G q s.2
  ap : Apart F G
  b : Below w.heap.size w a
  nF : ∀ g, F g → w.heap.size ≤ g
  nG : ∀ g, G g → w.heap.size ≤ g

section
variable {w a b w1 : World} {F G : Nat → Prop} {sp : Option Nat} {p q : Nat} {m : Int} {s : List It × List Bool} {l : List It} {bs bs' : List Bool} {os : List (Int × Int)} {e : Ending}
theorem PrAt.start (hs : Skip w1 (New w w1) p m l) (b1 : Below w.heap.size w w1) (hc : Coin a (New w1 a) q bs) (b2 : Below w1.heap.size w1 a) : PrAt w (New w w1) (New w1 a) (some p) q m (l, bs) a :=
  ⟨SkO.of (hs.fresh b2), hc, fun g h1 h2 => by have := h1.2; have := h2.1; omega, b1.trans (b2.mono b1.size), fun _ hg => hg.1, fun _ hg => Nat.le_trans b1.size hg.1⟩
theorem PrAt.fresh (h : PrAt w F G sp q m s a) (hb : Below a.heap.size a b) : PrAt w F G sp q m s b := ⟨h.sk.fresh hb, h.co.fresh hb, h.ap, h.b.trans (hb.mono h.b.size), h.nF, h.nG⟩
theorem PrAt.drew (h : PrAt w F G sp q m s a) : PrAt w F G sp q m s a.drew := h.fresh (Below.refl _ _).drew
/-- Behind a call on the coin. -/
theorem PrAt.coin (h : PrAt w F G sp q m (l, bs) a) (d : DidC G q bs' a b) : ∃ G', PrAt w F G' sp q m (l, bs') b ∧ Later G G' a ∧ Wrote G a b := by
  obtain ⟨G', k, wr, lt⟩ := d
  refine ⟨G', ⟨h.sk.apart wr h.ap, k, (lt.apart h.ap.symm h.sk.1).symm, h.b.trans (wr.below h.b.size h.nG), h.nF, fun g hg => ?_⟩, lt, wr⟩
  rcases lt g hg with h1 | h1
  · exact h.nG g h1
  · exact Nat.le_trans h.b.size h1
/-- Behind a call on the list. -/
theorem PrAt.list {l' : List It} (h : PrAt w F G (some p) q m (l, bs) a) (d : DidS F p m l' a b) : ∃ F', PrAt w F' G (some p) q m (l', bs) b ∧ Later F F' a ∧ Wrote F a b := by
  obtain ⟨F', k, wr, lt⟩ := d
  refine ⟨F', ⟨SkO.of k, h.co.apart wr h.ap.symm, lt.apart h.ap h.co.foot, h.b.trans (wr.below h.b.size h.nF), fun g hg => ?_, h.nG⟩, lt, wr⟩
  rcases lt g hg with h1 | h1
  · exact h.nF g h1
  · exact Nat.le_trans h.b.size h1
/-- Behind a batch. -/
theorem PrAt.post (h : PrAt w F G sp q m s a) (k : SrtPost a F G sp q m s os e b) :
    ∃ g F' G', e = .returned (.slice (some ⟨g, 0, none⟩) os.length os.length) ∧ RRow b g (batT 3 m (vals s.1) os) ∧ a.heap.size ≤ g ∧ PrAt w F' G' sp q m (batS m s os) b ∧ ¬ F' g ∧ ¬ G' g ∧ Wrote (fun g => F g ∨ G g) a b ∧ Later F F' a ∧ Later G G' a := by
  obtain ⟨g, F', G', h1, h2, h3, h4, h5, h6, h7, h8, h9, h10, h11⟩ := k
  refine ⟨g, F', G', h1, h2, h3, ⟨h4, h5, h6, h.b.trans (h9.below h.b.size (fun g hg => hg.elim (h.nF g) (h.nG g))), fun g hg => ?_, fun g hg => ?_⟩, h7, h8, h9, h10, h11⟩
  · rcases h10 g hg with k1 | k1
    · exact h.nF g k1
    · exact Nat.le_trans h.b.size k1
  · rcases h11 g hg with k1 | k1
    · exact h.nG g k1
    · exact Nat.le_trans h.b.size k1
/-- What is old, or younger, is none of its own. -/
theorem PrAt.old (h : PrAt w F G sp q m s a) {ao : Option Addr} {n : Nat} (ho : 0 < n → ∀ x, ao = some x → x.block < w.heap.size ∨ a.heap.size ≤ x.block) : (0 < n → Off F ao) ∧ (0 < n → Off G ao) := by
  constructor
  · intro hp x e hf
    have h1 := h.nF _ hf
    have h2 := h.sk.1 _ hf
    rcases ho hp x e with h3 | h3 <;> omega
  · intro hp x e hf
    have h1 := h.nG _ hf
    have h2 := h.co.foot _ hf
    rcases ho hp x e with h3 | h3 <;> omega
theorem opsOld {n : Nat} {ao : Option Addr} (h : OpsAt w ao n os) : 0 < n → ∀ x, ao = some x → x.block < w.heap.size := fun hp x hx => by
  obtain ⟨b', off, e', l', _⟩ := h.2 hp
  rw [e'] at hx
  injection hx with hx
  subst hx
  exact l'
end

set_option maxRecDepth 100000 in
set_option maxHeartbeats 4000000 in
theorem known (w : World) : Calls Try.prog 9 #[] w fun e w' => e = .returned (.bool true) ∧ Below w.heap.size w w' := by
  have eT : batT 3 2 [] [(2, 0), (1, 5), (1, 3)] = [(2, 3), (1, 0), (1, 0)] := by decide
  have eO : ordL 3 [(2, 0), (1, 5), (1, 3)] = [2, 1, 0] := by decide
  go_enter Try.func9, Try.ntmps9
  go_wp2_with fail
  refine (newS 2 w).mono ?_
  rintro e w1 ⟨rfl, s1, bl1⟩
  rw [mostOf_self 2 (by decide) (by decide)] at s1
  go_wp2_with fail
  refine (newC w1).mono ?_
  rintro e w2 ⟨rfl, c2, bl2⟩
  have P2 := PrAt.start s1 bl1 c2 bl2
  have ba : Below w2.heap.size w2 (w2.alloc (.cells #[.int .u8 2, .int .i32 0, .int .u8 1, .int .i32 5, .int .u8 1, .int .i32 3] 38)) := (Below.refl _ _).alloc (Nat.le_refl _) _
  have P3 := P2.fresh ba
  have hoff := P2.old (ao := some ⟨w2.heap.size, 0, none⟩) (n := 3) (fun _ x hx => by injection hx with hx; subst hx; exact .inr (Nat.le_refl _))
  have C := applyAny P3.sk P3.co P3.ap (some ⟨w2.heap.size, 0, none⟩) 3 3 _ (opsLit3 w2 2 0 1 5 1 3) hoff.1 hoff.2 (by omega)
  have HP := Lib.hid P3
  clear P2 P3 hoff s1 c2 bl1 bl2 ba
  go_wp2_with fail
  refine C.mono ?_
  clear C
  rintro e w3 hp
  obtain ⟨g, F', G', rfl, r3, _, P3, _⟩ := HP.out.post hp
  have e1 : batT 3 2 (vals ([] : List It)) [(2, 0), (1, 5), (1, 3)] = [(2, 3), (1, 0), (1, 0)] := eT
  rw [e1] at r3
  have HB := Lib.hid P3.b
  have hops := r3.ops
  have C := toldEq (w3.alloc (.cells #[.int .u8 2, .int .i32 3, .int .u8 1, .int .i32 0, .int .u8 1, .int .i32 0] 36)) (some ⟨g, 0, none⟩) (some ⟨w3.heap.size, 0, none⟩) 3 3 3 _ (hops.keep ((Below.refl _ w3).alloc (Nat.le_refl _) _)) (resLit3 w3 2 3 1 0 1 0) (by omega)
  clear hp HP P3 r3 hops e1 eT
  go_wp2_with fail
  refine C.mono ?_
  clear C
  rintro e w4 ⟨rfl, b4⟩
  have HB4 := Lib.hid (show Below w.heap.size w w4 from (HB.out.alloc HB.out.size _).trans (b4.mono (by have := HB.out.size; simp; omega)))
  clear b4 HB
  have C := orderAny (w4.alloc (.cells #[.int .u8 2, .int .i32 0, .int .u8 1, .int .i32 5, .int .u8 1, .int .i32 3] 38)) (some ⟨w4.heap.size, 0, none⟩) 3 3 _ (opsLit3 w4 2 0 1 5 1 3) (by omega)
  rw [eO] at C
  clear eO
  go_wp2_with fail
  refine C.mono ?_
  clear C
  rintro e w5 ⟨ao, cap, rfl, r5, _, _, b5⟩
  have HB5 := Lib.hid (show Below w.heap.size w w5 from (HB4.out.alloc HB4.out.size _).trans (b5.mono (by have := HB4.out.size; simp; omega)))
  clear b5 HB4
  have C := intsEq (w5.alloc (.cells #[.int .i64 2, .int .i64 1, .int .i64 0] 3)) ao (some ⟨w5.heap.size, 0, none⟩) 3 cap 3 [2, 1, 0] (r5.keep ((Below.refl _ w5).alloc (Nat.le_refl _) _)) (readsLit3 w5 .i64 3 2 1 0) (by omega)
  clear r5
  go_wp2_with fail
  refine C.mono ?_
  clear C
  rintro e w6 ⟨rfl, b6⟩
  have HB6 := Lib.hid (show Below w.heap.size w w6 from (HB5.out.alloc HB5.out.size _).trans (b6.mono (by have := HB5.out.size; simp; omega)))
  clear b6 HB5
  go_wp2
  go_ret
  exact ⟨rfl, HB6.out⟩

end Go.Proofs.Ytmkpmnmllgdppaa
namespace Go.Proofs.Ytmkpmnmllgdppaa
open Go.RowKit Go.Lib

/-- A block aside: neither of two sets, and not new. -/
structure Asd (F G : Nat → Prop) (w : World) (b : Nat) : Prop where
  nF : ¬ F b
  nG : ¬ G b
  lt : b < w.heap.size
section
variable {F G F' G' : Nat → Prop} {a b : World} {g : Nat}
theorem Asd.next (h : Asd F G a g) (lF : Later F F' a) (lG : Later G G' a) (hs : a.heap.size ≤ b.heap.size) : Asd F' G' b g := ⟨Later.not lF h.nF h.lt, Later.not lG h.nG h.lt, Nat.lt_of_lt_of_le h.lt hs⟩
theorem Asd.later (h : Asd F G a g) (hs : a.heap.size ≤ b.heap.size) : Asd F G b g := ⟨h.nF, h.nG, Nat.lt_of_lt_of_le h.lt hs⟩
theorem Asd.block (h : Asd F G a g) (hw : Wrote (fun g => F g ∨ G g) a b) : b.heap[g]? = a.heap[g]? := hw.block g h.lt (fun e => e.elim h.nF h.nG)
/-- Made behind the list and the coin. -/
theorem PrAt.asd {w : World} {sp : Option Nat} {q : Nat} {m : Int} {s : List It × List Bool} (h : PrAt w F G sp q m s a) (hg : a.heap.size ≤ g) (hl : g < b.heap.size) : Asd F G b g := ⟨fun e => by have := h.sk.1 _ e; omega, fun e => by have := h.co.foot _ e; omega, hl⟩
end
/-- Numbers aside. -/
theorem reads_aside {F G : Nat → Prop} {a b : World} {k : IntKind} {ao : Option Addr} {n : Nat} {zs : List Int} (h : Reads k a ao n zs) (hn : ∀ x, ao = some x → ¬ F x.block ∧ ¬ G x.block) (hw : Wrote (fun g => F g ∨ G g) a b) : Reads k b ao n zs := by
  rcases Nat.eq_zero_or_pos n with h0 | h0
  · subst h0; exact ⟨h.1, fun h => by omega⟩
  · exact h.off (fun x hx hg => hg.elim (hn x hx).1 (hn x hx).2) hw

theorem batZ_le {m : Int} (hm : m ≤ 1000) (zs : List Int) (os : List (Int × Int)) (hz : zs.length ≤ 1000) : (batZ 3 m zs os).length ≤ 1000 := runZ_le hm _ _ hz


section
variable {w w0 a : World} {F G : Nat → Prop} {sp : Option Nat} {q g : Nat} {m : Int} {s : List It × List Bool}
theorem PrAt.base (h : PrAt w0 F G sp q m s a) (hb : Below w.heap.size w w0) : PrAt w F G sp q m s a :=
  ⟨h.sk, h.co, h.ap, hb.trans (h.b.mono hb.size), fun g hg => Nat.le_trans hb.size (h.nF g hg), fun g hg => Nat.le_trans hb.size (h.nG g hg)⟩
/-- What lies ahead of the list and the coin. -/
theorem PrAt.ahead (h : PrAt w0 F G sp q m s a) (hg : g < w0.heap.size) : Asd F G a g := ⟨fun e => by have := h.nF _ e; omega, fun e => by have := h.nG _ e; omega, Nat.lt_of_lt_of_le hg h.b.size⟩
/-- A block aside is written to. -/
theorem PrAt.set (h : PrAt w F G sp q m s a) (hn : Asd F G a g) (hg : w.heap.size ≤ g) (i : Nat) (u : Value) : PrAt w F G sp q m s (a.setCell ⟨g, i, none⟩ u) :=
  ⟨h.sk.apart (wrote1 a g i u) (fun k x e => hn.nF (e ▸ x)), h.co.apart (wrote1 a g i u) (fun k x e => hn.nG (e ▸ x)), h.ap, h.b.setCell (p := ⟨g, i, none⟩) hg u, h.nF, h.nG⟩
end

/-- Numbers that are read, aside of the list and the coin. -/
structure RAs (F G : Nat → Prop) (w : World) (ao : Option Addr) (n : Nat) (zs : List Int) : Prop where
  r : Reads .i32 w ao n zs
  a : 0 < n → ∀ y, ao = some y → Asd F G w y.block
section
variable {w a b : World} {F G F' G' : Nat → Prop} {sp : Option Nat} {q g n : Nat} {m : Int} {s : List It × List Bool} {ao : Option Addr} {zs : List Int}
theorem RAs.start (h : PrAt w F G sp q m s a) (hr : Reads .i32 b ao n zs) (hn : ∀ y, ao = some y → a.heap.size ≤ y.block) : RAs F G b ao n zs :=
  ⟨hr, fun hp y hy => by
    obtain ⟨b', o', e', l', _⟩ := hr.2 hp
    have hy0 := hy
    rw [e'] at hy
    injection hy with hy
    have hb : y.block = b' := by rw [← hy]
    exact h.asd (hn y hy0) (by omega)⟩
theorem RAs.later (h : RAs F G a ao n zs) (hb : Below a.heap.size a b) : RAs F G b ao n zs := ⟨h.r.keep hb, fun hp y hy => (h.a hp y hy).later hb.size⟩
theorem RAs.next (h : RAs F G a ao n zs) (hw : Wrote (fun g => F g ∨ G g) a b) (lF : Later F F' a) (lG : Later G G' a) : RAs F' G' b ao n zs := by
  refine ⟨?_, fun hp y hy => (h.a hp y hy).next lF lG hw.size⟩
  rcases Nat.eq_zero_or_pos n with h0 | h0
  · subst h0; exact ⟨h.r.1, fun h => by omega⟩
  · exact reads_aside h.r (fun y hy => ⟨(h.a h0 y hy).nF, (h.a h0 y hy).nG⟩) hw
theorem RAs.set (h : RAs F G a ao n zs) (hn : ∀ y, ao = some y → y.block ≠ g) (i : Nat) (u : Value) : RAs F G (a.setCell ⟨g, i, none⟩ u) ao n zs := by
  refine ⟨?_, fun hp y hy => (h.a hp y hy).later (wrote1 a g i u).size⟩
  rcases Nat.eq_zero_or_pos n with h0 | h0
  · subst h0; exact ⟨h.r.1, fun h => by omega⟩
  · exact h.r.off (fun y hy hg => hn y hy hg) (wrote1 a g i u)
end
/-- A list but its first. -/
theorem reads_drop1 {k : IntKind} {w : World} {ao : Option Addr} {n : Nat} {z : Int} {zs : List Int} (h : Reads k w ao (n + 1) (z :: zs)) {b off : Nat} (ha : ao = some ⟨b, off, none⟩) : Reads k w (some ⟨b, off + 1, none⟩) n zs := by
  refine ⟨by have := h.1; simpa using this, fun hp => ?_⟩
  obtain ⟨b', off', e, bl, hc⟩ := h.2 (by omega)
  rw [ha] at e
  simp only [Option.some.injEq, Addr.mk.injEq, and_true] at e
  obtain ⟨rfl, rfl⟩ := e
  refine ⟨b, off + 1, rfl, bl, fun i hi => ?_⟩
  have := hc (i + 1) (by omega)
  rw [show off + 1 + i = off + (i + 1) by omega]
  simpa [List.getD] using this
theorem opsLit1 (w : World) (a b : Int) : OpsAt (w.alloc (.cells #[.int .u8 a, .int .i32 b] 38)) (some ⟨w.heap.size, 0, none⟩) 1 [(a, b)] :=
  ⟨rfl, fun _ => ⟨w.heap.size, 0, rfl, by simp, fun i hi => by
    match i, hi with
    | 0, _ => exact ⟨by go_simp, by go_simp⟩⟩⟩

/-- A list that is filled, all of one height. -/
def fillI (m hv : Int) (xs : List Int) : Nat → List It
  | 0 => []
  | k + 1 => insL m (fillI m hv xs k) ⟨xs.getD k 0, hOf hv⟩

theorem bat_none (m : Int) (s : List It × List Bool) : batS m s [] = s := rfl
theorem ord_none : ordL 3 [] = [] := rfl
theorem addsOf_one (o : Int × Int) : addsOf 3 [o] 1 = if o.1 = 1 then [0] else [] := by
  unfold addsOf
  rw [show idx 1 = [0] from rfl]
  unfold isAdd
  by_cases h : o.1 = 1
  · simp [h]
  · simp [h]
theorem othersOf_one (o : Int × Int) : othersOf 3 [o] 1 = if o.1 = 1 then [] else [0] := by
  unfold othersOf
  rw [show idx 1 = [0] from rfl]
  unfold isAdd
  by_cases h : o.1 = 1
  · simp [h]
  · simp [h]
theorem ord_one (o : Int × Int) : ordL 3 [o] = [0] := by
  unfold ordL ordK
  show sortB _ (addsOf 3 [o] 1) ++ othersOf 3 [o] 1 = [0]
  rw [addsOf_one, othersOf_one]
  by_cases h : o.1 = 1
  · rw [if_pos h, if_pos h]; rfl
  · rw [if_neg h, if_neg h]; rfl
theorem ordO_one (o : Int × Int) : ordO 3 [o] = [o] := by unfold ordO; rw [ord_one]; rfl
theorem batS_one (m : Int) (s : List It × List Bool) (o : Int × Int) : batS m s [o] = stS m s o := by unfold batS; rw [ordO_one]; rfl
theorem batT_one (m : Int) (zs : List Int) (o : Int × Int) : batT 3 m zs [o] = [(hpC m zs o.1, hpV zs o.1)] := by
  unfold batT
  rw [ordO_one, ord_one]
  show (List.replicate 1 (0, 0)).set 0 _ = _
  unfold runT objC objV
  simp only [if_neg (show ¬ (3 : Int) = 1 by omega), if_neg (show ¬ (3 : Int) = 2 by omega), if_true]
  rfl

end Go.Proofs.Ytmkpmnmllgdppaa
