/-
  An operation among some that may be. Conditions: none. What reaperref08.Batch tells: as batZ and batT say. Conditions: at most a thousand items and a thousand operations. Answers in a row that the call made. Conditions: none. What reaperref08.Run tells: as runZ and runT say. Conditions: at most a thousand items and a thousand operations.
-/
import Derived.Test.YtniefplgijpckaaGreatRefOrd11m
namespace Go.Proofs.YtniefplgijpckaaGreat
open Go.RowKit Go.Lib

theorem ok_at {os : List (Int × Int)} (h : ∀ o ∈ os, OpOk o) {i : Nat} (hi : i < os.length) : OpOk (os.getD i (0, 0)) := h _ (by simp [List.getD, hi])


end Go.Proofs.YtniefplgijpckaaGreat
namespace Go.Proofs.YtniefplgijpckaaGreat
open Go.RowKit Go.Lib

theorem refOrder (w : World) (obj : Int) (ao : Option Addr) (n cap : Nat) (os : List (Int × Int)) (ho : OpsAt w ao n os) (hn : n ≤ 1000) :
    Calls Tryz.prog 31 #[.int .u8 obj, .slice ao n cap] w fun e w' => ∃ al cl, e = .returned (.slice al n cl) ∧ Reads .i64 w' al n (ordL obj os) ∧ (∀ a, al = some a → w.heap.size ≤ a.block) ∧ Below w.heap.size w w' := by
  by_cases h : obj = 3
  · subst h; exact refOrderHeap w ao n cap os ho hn
  · exact refOrderOther w obj ao n cap os ho hn h

theorem runT_at (obj m : Int) (zs : List Int) (os : List (Int × Int)) {k : Nat} (h : k < os.length) : (runT obj m zs os).getD k (0, 0) = (objC obj m (runZ obj m zs (os.take k)) (os.getD k (0, 0)).1, objV obj (runZ obj m zs (os.take k)) (os.getD k (0, 0)).1) := by
  have e : os = os.take k ++ os.getD k (0, 0) :: os.drop (k + 1) := by
    have : os.getD k (0, 0) = os[k] := by simp [List.getD, h]
    rw [this, ← List.drop_eq_getElem_cons h, List.take_append_drop]
  have hl : (runT obj m zs (os.take k)).length = k := by rw [runT_length, List.length_take, Nat.min_eq_left (by omega)]
  conv => lhs; rw [e, runT_append]
  rw [List.getD_eq_getElem?_getD, List.getElem?_append_right (by omega), hl, Nat.sub_self]
  rfl
theorem ordO_length8 (obj : Int) (os : List (Int × Int)) : (ordO obj os).length = os.length := by simp [ordO, ordL_length]

/-- What holds at each round's head of Batch. -/
structure BatAt (w : World) (ao0 : Option Addr) (obj m : Int) (zs : List Int) (os : List (Int × Int)) (al : Option Addr) (n b k : Nat) (s : Value) (wr : World) : Prop where
  r : ∃ a c, s = .slice a (runZ obj m zs ((ordO obj os).take k)).length c ∧ Reads .i32 wr a (runZ obj m zs ((ordO obj os).take k)).length (runZ obj m zs ((ordO obj os).take k)) ∧ (runZ obj m zs ((ordO obj os).take k)).length ≤ c ∧ Aside a (runZ obj m zs ((ordO obj os).take k)).length (some b) ∧ ∀ y, a = some y → w.heap.size ≤ y.block ∨ ao0 = some y
  p : RRow wr b (placeK (ordL obj os) (runT obj m zs (ordO obj os)) n k)
  o : Reads .i64 wr al n (ordL obj os)
  no : 0 < n → ∀ a, al = some a → a.block ≠ b
  bl : Below w.heap.size w wr
  bb : w.heap.size ≤ b

/-- What Batch of the document leaves. -/
def RefBatPost (w : World) (ao0 : Option Addr) (obj m : Int) (zs : List Int) (os : List (Int × Int)) (e : Ending) (w' : World) : Prop :=
  ∃ a c b, e = .returned (.tuple #[.slice a (batZ obj m zs os).length c, .slice (some ⟨b, 0, none⟩) os.length os.length]) ∧ Reads .i32 w' a (batZ obj m zs os).length (batZ obj m zs os) ∧ RRow w' b (batT obj m zs os) ∧ Below w.heap.size w w' ∧ (batZ obj m zs os).length ≤ c ∧ w.heap.size ≤ b ∧ ∀ y, a = some y → w.heap.size ≤ y.block ∨ ao0 = some y

theorem BatAt.done {w wr : World} {ao0 : Option Addr} {obj m : Int} {zs : List Int} {os : List (Int × Int)} {al : Option Addr} {n b : Nat} {s : Value} (h : BatAt w ao0 obj m zs os al n b n s wr) (hn : os.length = n) : RefBatPost w ao0 obj m zs os (.returned (.tuple #[s, .slice (some ⟨b, 0, none⟩) n n])) wr := by
  obtain ⟨⟨a, c, rfl, h1, hle, _, hna⟩, h2, _, _, h5, h6⟩ := h
  have e : (ordO obj os).take n = ordO obj os := List.take_of_length_le (by rw [ordO_length8, hn]; exact Nat.le_refl _)
  rw [e] at h1 hle ⊢
  subst hn
  exact ⟨a, c, b, rfl, h1, h2, h5, hle, h6, hna⟩

/-- One operation more. -/
theorem BatAt.next {w wr w1 w2 : World} {ao0 : Option Addr} {obj m c x : Int} {zs Z Z' : List Int} {os : List (Int × Int)} {al a a' : Option Addr} {n b k p c0 c' : Nat} {o1 : Obj} {kd kv : Int} (hZ0 : runZ obj m zs ((ordO obj os).take k) = Z) (hn : os.length = n) (hk : k < n) (hp : (ordL obj os).getD k 0 = (p : Int)) (ho : os.getD p (0, 0) = (kd, kv))
    (h : BatAt w ao0 obj m zs os al n b k (.slice a Z.length c0) wr)
    (hc : objC obj m Z kd = c) (hx : objV obj Z kd = x) (hZ : objL obj m Z kd kv = Z')
    (r1 : Reads .i32 w1 a' Z'.length Z') (l1 : Z'.length ≤ c') (s1 : (a' = a ∧ Z' = Z) ∨ ∀ y, a' = some y → wr.heap.size ≤ y.block ∧ y.block < w1.heap.size) (b1 : Below wr.heap.size wr w1)
    (e2 : (w1.alloc o1).drew = w2) :
    BatAt w ao0 obj m zs os al n b (k + 1) (.slice a' Z'.length c') ((w2.setCell ⟨b, p * 2, none⟩ (.int .u8 c)).setCell ⟨b, p * 2 + 1, none⟩ (.int .i32 x)) := by
  subst hZ0
  have hok : (ordO obj os).getD k (0, 0) = (kd, kv) := by rw [ordO_at (by rw [hn]; exact hk), hp, Int.toNat_natCast]; exact ho
  have e := take_op8 (ordO obj os) k (by rw [ordO_length8, hn]; exact hk) hok
  have eZ : runZ obj m zs ((ordO obj os).take (k + 1)) = Z' := by rw [e, runZ_snoc]; exact hZ
  have eT : (runT obj m zs (ordO obj os)).getD k (0, 0) = (c, x) := by rw [runT_at _ _ _ _ (by rw [ordO_length8, hn]; exact hk), hok, hc, hx]
  have b2 : Below w1.heap.size w1 w2 := by subst e2; exact ((Below.refl _ _).alloc (Nat.le_refl _) _).drew
  have hs := b2.size
  have hs1 := b1.size
  have b12 : Below wr.heap.size wr w2 := b1.trans (b2.mono hs1)
  have nt : Aside a' Z'.length (some b) := by
    intro hp y hy
    rcases s1 with ⟨rfl, hz⟩ | hf
    · obtain ⟨a0, c1, hv, _, _, ha, _⟩ := h.r
      simp only [Value.slice.injEq, true_and] at hv
      obtain ⟨rfl, rfl⟩ := hv
      exact ha (by rw [← hz]; exact hp) y hy
    · intro e
      injection e with e
      have := (hf y hy).1
      have := h.p.lt
      omega
  have na : ∀ y, a' = some y → w.heap.size ≤ y.block ∨ ao0 = some y := by
    intro y hy
    rcases s1 with ⟨rfl, hz⟩ | hf
    · obtain ⟨a0, c1, hv, _, _, _, ha⟩ := h.r
      simp only [Value.slice.injEq, true_and] at hv
      obtain ⟨rfl, rfl⟩ := hv
      exact ha y hy
    · exact .inl (Nat.le_trans h.bl.size (hf y hy).1)
  have hw : Wrote (fun g => g = b) w2 ((w2.setCell ⟨b, p * 2, none⟩ (.int .u8 c)).setCell ⟨b, p * 2 + 1, none⟩ (.int .i32 x)) :=
    ((Wrote.refl (fun g => g = b) w2).setCell (q := ⟨b, p * 2, none⟩) (.inr rfl) _).setCell (q := ⟨b, p * 2 + 1, none⟩) (.inr rfl) _
  refine ⟨?_, ?_, ?_, h.no, (h.bl.trans (b12.mono h.bl.size)).trans (hw.below (Nat.le_trans h.bl.size b12.size) (fun g hg => by have := h.bb; omega)), h.bb⟩
  · rw [eZ]
    refine ⟨a', c', rfl, ?_, l1, nt, na⟩
    rcases Nat.eq_zero_or_pos Z'.length with h0 | h0
    · exact ⟨rfl, fun h => by omega⟩
    · exact (r1.keep b2).off (fun y hy hg => nt h0 y hy (by rw [hg])) hw
  · have := (h.p.below b12).set2 p c x
    unfold placeK
    rw [hp, Int.toNat_natCast, eT]
    exact this
  · exact (h.o.keep b12).off (fun y hy hg => h.no (by omega) y hy hg) hw

set_option maxRecDepth 100000 in
set_option maxHeartbeats 8000000 in
theorem refBatch (w : World) (obj most : Int) (ao ap : Option Addr) (nz capz n cap : Nat) (zs : List Int) (os : List (Int × Int)) (hz : Reads .i32 w ao nz zs) (hcz : nz ≤ capz) (ho : OpsAt w ap n os) (hok : ∀ o ∈ os, OpOk o) (hnz : nz ≤ 1000) (hn : n ≤ 1000) :
    Calls Tryz.prog 15 #[.int .u8 obj, .int .i64 most, .slice ao nz capz, .slice ap n cap] w (RefBatPost w ao obj (mostOf most) zs os) := by
  obtain ⟨j0, hj, hy0, hy1, hy2⟩ := info_parts infoRes
  have HO := Lib.hid ho
  have HN := Lib.hid ho.1
  have HK := Lib.hid hok
  have HZ0 := Lib.hid (And.intro hz hcz)
  have HRL := Lib.hid (fun (k : Nat) => runZ_le (obj := obj) (mostOf_in most).2 ((ordO obj os).take k) zs (by rw [hz.1]; exact hnz))
  clear hz hcz ho hok
  go_enter Tryz.func15, Tryz.ntmps15
  go_upto_region 2 with (at_make; refine wpList_make_full _ rfl _ _ 33 rfl w.heap.size 53 j0 _ 2 Tryz.underlying33 hj hy0 hy1 .i64 .i64 _ _ n rfl rfl rfl rfl (by rw [hy2]; omega) (by simp only [maxLen]; omega) (Nat.le_refl _) ?_; intro w4 hown4 hgrow4; have HM := Lib.hid (madeRes hown4 hgrow4); clear hown4 hgrow4)
  generalize hb : w.heap.size = b at *
  have HBS := Lib.hid hb
  clear hb
  have HBW := Lib.hid (show Below w.heap.size w w4 by rw [HBS.out]; exact HM.out.2)
  have C := Lib.hid (refOrder w4 obj ap n cap os (HO.out.keep HBW.out) hn)
  go_wp2_with fail
  refine C.out.mono ?_
  rintro e w5 ⟨al, cl, rfl, r5, n5, b5⟩
  have HS := Lib.hid (show BatAt w ao obj (mostOf most) zs os al n b 0 (.slice ao nz capz) w5 from by
    have hb5 : Below w.heap.size w w5 := HBW.out.trans (b5.mono HBW.out.size)
    have e : runZ obj (mostOf most) zs ((ordO obj os).take 0) = zs := rfl
    refine ⟨?_, HM.out.1.below b5, r5, ?_, hb5, by rw [HBS.out]; exact Nat.le_refl _⟩
    · rw [e, HZ0.out.1.1]
      exact ⟨ao, capz, rfl, HZ0.out.1.keep hb5, HZ0.out.2, fun hp x hx e => by have := reads_lt HZ0.out.1 hp x hx; have := HBS.out; injection e with e; omega, fun y hy => .inr hy⟩
    · intro _ y hy
      have := n5 y hy
      have := HM.out.1.lt
      omega)
  clear r5 n5 b5 C HM HBW HZ0
  go_wp2_with fail
  go_loopw [2, 12] (fun s i wr => ∃ k : Nat, k ≤ n ∧ i = .int .i64 k ∧ BatAt w ao obj (mostOf most) zs os al n b k s wr) (fun _ i _ => n - (intOf i).toNat)
  case atStart => exact ⟨0, Nat.zero_le _, rfl, HS.out⟩
  case round =>
    obtain ⟨k, hk, rfl, hr⟩ := hrel
    clear HS
    by_cases hlt : k < n
    · obtain ⟨a, c0, rfl, rd, hc0, _, _⟩ := hr.r
      obtain ⟨lb, lo, rfl, ll, lc⟩ := hr.o.2 (by omega)
      have cz := lc k hlt
      have hzb := ordL_at (obj := obj) (os := os) (i := k) (by rw [HN.out]; exact hlt)
      obtain ⟨z, hz⟩ : ∃ z, (ordL obj os).getD k 0 = z := ⟨_, rfl⟩
      rw [hz] at cz hzb
      rw [HN.out] at hzb
      obtain ⟨p, rfl⟩ : ∃ p : Nat, z = p := ⟨z.toNat, by omega⟩
      have hpn : p < n := by omega
      obtain ⟨bo, off, rfl, bol, hc⟩ := HO.out.2 (by omega)
      have y0 := (hr.bl.cell (p := ⟨bo, off + p * 2, none⟩) bol).trans (hc p hpn).1
      have y1 := (hr.bl.cell (p := ⟨bo, off + p * 2 + 1, none⟩) bol).trans (hc p hpn).2
      have i1 : (k : Int) < n := by omega
      have p1 : (p : Int) < n := by omega
      have hop := ok_at HK.out (i := p) (by rw [HN.out]; exact hpn)
      obtain ⟨kd, hkd⟩ : ∃ x, (os.getD p (0, 0)).1 = x := ⟨_, rfl⟩
      obtain ⟨kv, hkv⟩ : ∃ x, (os.getD p (0, 0)).2 = x := ⟨_, rfl⟩
      have HKD := Lib.hid (show os.getD p (0, 0) = (kd, kv) by rw [← hkd, ← hkv])
      have hZl := HRL.out k
      obtain ⟨Z, hZ⟩ : ∃ Z, runZ obj (mostOf most) zs ((ordO obj os).take k) = Z := ⟨_, rfl⟩
      have HZ := Lib.hid hZ
      rw [hZ] at rd hc0 hZl hr ⊢
      have HR := Lib.hid hr
      have HP := Lib.hid hz
      rw [hkd] at y0
      rw [hkv] at y1
      have C := Lib.hid (refApply obj most kd kv rd hc0 hZl (by rw [← hkd]; exact hop.1.1))
      clear hr hc hop hkd hkv rd hZ hc0 hZl lc hz hzb
      go_wp2_with fail
      refine C.out.mono ?_
      rintro e w1 ⟨a', c', rfl, r1, l1, s1, b1⟩
      have HT := Lib.hid (And.intro r1 (And.intro l1 (And.intro s1 b1)))
      have cz := (b1.cell (p := ⟨lb, lo + k, none⟩) ll).trans cz
      have hp1 := HR.out.p.below b1
      clear r1 l1 s1 b1 C y0 y1
      obtain ⟨rc, hrc⟩ : ∃ x, objC obj (mostOf most) Z kd = x := ⟨_, rfl⟩
      obtain ⟨rv, hrv⟩ : ∃ x, objV obj Z kd = x := ⟨_, rfl⟩
      obtain ⟨Z', hZ'⟩ : ∃ x, objL obj (mostOf most) Z kd kv = x := ⟨_, rfl⟩
      rw [hrc, hrv]
      rw [hZ'] at HT ⊢
      have HNx := Lib.hid (show ∀ (w2 : World) (o1 : Obj), (w1.alloc o1).drew = w2 → BatAt w ao obj (mostOf most) zs os (some ⟨lb, lo, none⟩) n b (k + 1) (.slice a' Z'.length c') ((w2.setCell ⟨b, p * 2, none⟩ (.int .u8 rc)).setCell ⟨b, p * 2 + 1, none⟩ (.int .i32 rv)) from
        fun w2 o1 e => BatAt.next HZ.out HN.out hlt HP.out HKD.out HR.out hrc hrv hZ' HT.out.1 HT.out.2.1 HT.out.2.2.1 HT.out.2.2.2 e)
      have hll1 : lb < w1.heap.size := Nat.lt_of_lt_of_le ll HT.out.2.2.2.size
      clear hrc hrv hZ' HT HR
      go_upto_region 8 with (fail)
      have hbA : Below w1.heap.size w1 (w1.alloc (.cells #[.int .u8 rc, .int .i32 rv] 53)) := (Below.refl _ _).alloc (Nat.le_refl _) _
      have x0 := (RBox.new w1 rc rv).c0
      have x1 := (RBox.new w1 rc rv).c1
      have cz := (hbA.cell (p := ⟨lb, lo + k, none⟩) hll1).trans cz
      have hp2 := hp1.below hbA
      obtain ⟨c0', c1'⟩ := hp2.cells (i := p) (by rw [placeK_length]; exact hpn)
      have fz := hp2.free
      have HN2 := Lib.hid (HNx.out _ (.cells #[.int .u8 rc, .int .i32 rv] 53) rfl)
      clear HNx hbA hp1 hp2 hll1 ll
      generalize w1.alloc (.cells #[.int .u8 rc, .int .i32 rv] 53) = w2 at *
      generalize w1.heap.size = g1 at *
      go_still_tail 7, (by kernel_rfl)
      have c0 : w2.drew.cell? ⟨b, p * 2, none⟩ = _ := c0'
      have c1 : w2.drew.cell? ⟨b, p * 2 + 1, none⟩ = _ := c1'
      have fz : ∀ j, w2.drew.frozen? ⟨b, j, none⟩ = false := fz
      clear c0' c1' x0 x1 cz
      change wpList _ _ _ _ _ w2.drew
      generalize w2.drew = w3 at *
      go_wp2
      go_roundw
      case rel => exact ⟨k + 1, by omega, by go_num, HN2.out⟩
      case measure => simp [intOf]; omega
    · obtain rfl : k = n := by omega
      have HF := Lib.hid (hr.done HN.out)
      clear hr hlt
      go_wp2
      go_ret2
      exact HF.out

end Go.Proofs.YtniefplgijpckaaGreat
namespace Go.Proofs.YtniefplgijpckaaGreat
open Go.RowKit Go.Lib

section
variable {w : World} {n : Nat}
/-- What is told, in a row of one's own. -/
theorem resAt_own {base : Nat} {v : Value} {rs : List (Int × Int)} (h : w.ownsRow base 53 2 v n (flatO rs)) : ∃ ao cap, v = .slice ao n cap ∧ OpsAt w ao n rs := by
  have hl : rs.length = n := by have := h.1; rw [flatO_length] at this; omega
  have hcs := fun g hg => h.cells (g := g) hg
  rcases h.2 with ⟨rfl, rfl⟩ | ⟨g, cap, cur, rfl, hb, hg, hle, _⟩
  · exact ⟨_, _, rfl, ⟨hl, fun hp => by omega⟩⟩
  · refine ⟨_, _, rfl, ⟨hl, fun hp => ⟨g, 0, rfl, lt_of_block hg, fun i hi => ?_⟩⟩⟩
    obtain ⟨h1, h2⟩ := flatO_at rs i (by omega)
    have k1 := hcs g rfl _ _ h1
    have k2 := hcs g rfl _ _ h2
    rw [Addr.add_lit] at k1 k2
    exact ⟨k1, by rw [Nat.add_assoc]; exact k2⟩
end

end Go.Proofs.YtniefplgijpckaaGreat
namespace Go.Proofs.YtniefplgijpckaaGreat
open Go.RowKit Go.Lib

/-- What holds at each round's head of Run. -/
structure RefRunAt (w : World) (ao0 : Option Addr) (obj m : Int) (zs : List Int) (os : List (Int × Int)) (k : Nat) (s t : Value) (wr : World) : Prop where
  r : ∃ a c, s = .slice a (runZ obj m zs (os.take k)).length c ∧ Reads .i32 wr a (runZ obj m zs (os.take k)).length (runZ obj m zs (os.take k)) ∧ (runZ obj m zs (os.take k)).length ≤ c ∧ Aside a (runZ obj m zs (os.take k)).length t.ownBlock ∧ ∀ y, a = some y → w.heap.size ≤ y.block ∨ ao0 = some y
  o : wr.ownsRow w.heap.size 53 2 t k (flatO (runT obj m zs (os.take k)))
  b : Below w.heap.size w wr

/-- What Run of the document leaves. -/
def RefRunPost (w : World) (ao0 : Option Addr) (obj m : Int) (zs : List Int) (os : List (Int × Int)) (e : Ending) (w' : World) : Prop :=
  ∃ a c a2 c2, e = .returned (.tuple #[.slice a (runZ obj m zs os).length c, .slice a2 os.length c2]) ∧ Reads .i32 w' a (runZ obj m zs os).length (runZ obj m zs os) ∧ OpsAt w' a2 os.length (runT obj m zs os) ∧ Below w.heap.size w w' ∧ (∀ y, a = some y → w.heap.size ≤ y.block ∨ ao0 = some y) ∧ ∀ y, a2 = some y → w.heap.size ≤ y.block

theorem RefRunAt.done {w wr : World} {ao0 : Option Addr} {obj m : Int} {zs : List Int} {os : List (Int × Int)} {n : Nat} {s t : Value} (h : RefRunAt w ao0 obj m zs os n s t wr) (hn : os.length = n) : RefRunPost w ao0 obj m zs os (.returned (.tuple #[s, t])) wr := by
  obtain ⟨⟨a, c, rfl, h1, _, _, h5⟩, h2, h3⟩ := h
  subst hn
  rw [List.take_length] at h1 h2 ⊢
  obtain ⟨a2, c2, rfl, h4⟩ := resAt_own h2
  refine ⟨a, c, a2, c2, rfl, h1, h4, h3, h5, fun y hy => ?_⟩
  subst hy
  exact (h2.lt y.block rfl).1

/-- One operation more. -/
theorem RefRunAt.next {w wr w1 w2 w3 : World} {ao0 : Option Addr} {obj m c x : Int} {zs Z Z' : List Int} {os : List (Int × Int)} {k n : Nat} {a a' : Option Addr} {c0 c' : Nat} {t t' : Value} {o1 o2 : Obj} {kd kv : Int} (hZ0 : runZ obj m zs (os.take k) = Z) (hn : os.length = n) (hk : k < n) (ho : os.getD k (0, 0) = (kd, kv))
    (h : RefRunAt w ao0 obj m zs os k (.slice a Z.length c0) t wr)
    (hc : objC obj m Z kd = c) (hx : objV obj Z kd = x) (hZ : objL obj m Z kd kv = Z')
    (r1 : Reads .i32 w1 a' Z'.length Z') (l1 : Z'.length ≤ c') (s1 : (a' = a ∧ Z' = Z) ∨ ∀ y, a' = some y → wr.heap.size ≤ y.block ∧ y.block < w1.heap.size) (b1 : Below wr.heap.size wr w1)
    (e2 : (w1.alloc o1).alloc o2 = w2) (q : w3.ownsRow w.heap.size 53 2 t' (k + 1) (flatO (runT obj m zs (os.take k)) ++ [.int .u8 c, .int .i32 x])) (g : w2.grownBy w3 t.ownBlock) (l : ∀ g, t'.ownBlock = some g → t.ownBlock = some g ∨ w2.heap.size ≤ g) :
    RefRunAt w ao0 obj m zs os (k + 1) (.slice a' Z'.length c') t' w3 := by
  subst hZ0
  have e := take_op8 os k (by omega) ho
  have eZ : runZ obj m zs (os.take (k + 1)) = Z' := by rw [e, runZ_snoc]; exact hZ
  have eT : flatO (runT obj m zs (os.take (k + 1))) = flatO (runT obj m zs (os.take k)) ++ [.int .u8 c, .int .i32 x] := by rw [e, runT_snoc, flatO_snoc, hc, hx]
  have b2 : Below w1.heap.size w1 w2 := by subst e2; exact ((Below.refl _ _).alloc (Nat.le_refl _) _).alloc (by simp) _
  have hs := b2.size
  have hs1 := b1.size
  have nt : Aside a' Z'.length t.ownBlock := by
    intro hp y hy
    rcases s1 with ⟨rfl, hz⟩ | hf
    · obtain ⟨a0, c1, hv, _, _, ha, _⟩ := h.r
      simp only [Value.slice.injEq, true_and] at hv
      obtain ⟨rfl, rfl⟩ := hv
      exact ha (by rw [← hz]; exact hp) y hy
    · intro e
      have := (hf y hy).1
      have := (h.o.lt _ e).2
      omega
  refine ⟨?_, by rw [eT]; exact q, ?_⟩
  · rw [eZ]
    refine ⟨a', c', rfl, reads_grown (r1.keep b2) nt g, l1, ?_, ?_⟩
    · intro hp y hy e
      rcases l _ e with h1 | h1
      · exact nt hp y hy h1
      · have := reads_lt r1 hp y hy
        omega
    · intro y hy
      rcases s1 with ⟨rfl, hz⟩ | hf
      · obtain ⟨a0, c1, hv, _, _, _, ha⟩ := h.r
        simp only [Value.slice.injEq, true_and] at hv
        obtain ⟨rfl, rfl⟩ := hv
        exact ha y hy
      · exact .inl (Nat.le_trans h.b.size (hf y hy).1)
  · exact ((h.b.trans (b1.mono h.b.size)).trans (b2.mono (Nat.le_trans h.b.size hs1))).grown g (by have := h.b.size; omega) (fun k e => (h.o.lt k e).1)

theorem op_cells2 (w : World) (a b : Int) (t : TypeId) {g : Nat} (h : w.heap.size = g) : ∀ j u, ([.int .u8 a, .int .i32 b] : List Value)[j]? = some u → (w.alloc (.cells #[.int .u8 a, .int .i32 b] t)).cell? ((⟨g, 0, none⟩ : Addr).add j) = some u := by
  subst h
  exact op_cells w a b t

set_option maxRecDepth 100000 in
set_option maxHeartbeats 8000000 in
theorem refRun (w : World) (obj most : Int) (ao ap : Option Addr) (nz capz n cap : Nat) (zs : List Int) (os : List (Int × Int)) (hz : Reads .i32 w ao nz zs) (hcz : nz ≤ capz) (ho : OpsAt w ap n os) (hok : ∀ o ∈ os, OpOk o) (hnz : nz ≤ 1000) (hn : n ≤ 1000) :
    Calls Tryz.prog 25 #[.int .u8 obj, .int .i64 most, .slice ao nz capz, .slice ap n cap] w (RefRunPost w ao obj (mostOf most) zs os) := by
  obtain ⟨j0, hj, hy0, hy1, hy2⟩ := info_parts infoRes
  have HO := Lib.hid ho
  have HN := Lib.hid ho.1
  have HK := Lib.hid hok
  have HS := Lib.hid (show RefRunAt w ao obj (mostOf most) zs os 0 (.slice ao nz capz) (.slice none 0 0) w from by
    have e : runZ obj (mostOf most) zs (os.take 0) = zs := rfl
    refine ⟨?_, World.ownsRow_nil _ _ _ _, Below.refl _ _⟩
    rw [e, hz.1]
    exact ⟨ao, capz, rfl, hz, hcz, (fun _ x _ h => by cases h), fun y hy => .inr hy⟩)
  have HRL := Lib.hid (fun (k : Nat) => runZ_le (obj := obj) (mostOf_in most).2 (os.take k) zs (by rw [hz.1]; exact hnz))
  clear hz hcz ho hok
  go_enter Tryz.func25, Tryz.ntmps25
  go_wp2_with fail
  go_loopw [2, 10, 11] (fun s t i wr => ∃ k : Nat, k ≤ n ∧ i = .int .i64 k ∧ RefRunAt w ao obj (mostOf most) zs os k s t wr) (fun _ _ i _ => n - (intOf i).toNat)
  case atStart => exact ⟨0, Nat.zero_le _, rfl, HS.out⟩
  case round =>
    obtain ⟨k, hk, rfl, hr⟩ := hrel
    clear HS
    by_cases hlt : k < n
    · obtain ⟨a, c0, rfl, rd, hc0, _, _⟩ := hr.r
      obtain ⟨b, off, rfl, bl, hc⟩ := HO.out.2 (by omega)
      have y0 := (hr.b.cell (p := ⟨b, off + k * 2, none⟩) bl).trans (hc k hlt).1
      have y1 := (hr.b.cell (p := ⟨b, off + k * 2 + 1, none⟩) bl).trans (hc k hlt).2
      have i1 : (k : Int) < n := by omega
      have hop := ok_at HK.out (i := k) (by rw [HN.out]; exact hlt)
      obtain ⟨kd, hkd⟩ : ∃ x, (os.getD k (0, 0)).1 = x := ⟨_, rfl⟩
      obtain ⟨kv, hkv⟩ : ∃ x, (os.getD k (0, 0)).2 = x := ⟨_, rfl⟩
      have HKD := Lib.hid (show os.getD k (0, 0) = (kd, kv) by rw [← hkd, ← hkv])
      have hZl := HRL.out k
      obtain ⟨Z, hZ⟩ : ∃ Z, runZ obj (mostOf most) zs (os.take k) = Z := ⟨_, rfl⟩
      have HZ := Lib.hid hZ
      rw [hZ] at rd hc0 hZl hr ⊢
      have HR := Lib.hid hr
      rw [hkd] at y0
      rw [hkv] at y1
      have C := Lib.hid (refApply obj most kd kv rd hc0 hZl (by rw [← hkd]; exact hop.1.1))
      clear hr hc hop hkd hkv rd hZ hc0 hZl
      go_wp2_with fail
      refine C.out.mono ?_
      rintro e w1 ⟨a', c', rfl, r1, l1, s1, b1⟩
      have HT := Lib.hid (And.intro r1 (And.intro l1 (And.intro s1 b1)))
      clear r1 l1 s1 b1 C y0 y1
      obtain ⟨rc, hrc⟩ : ∃ x, objC obj (mostOf most) Z kd = x := ⟨_, rfl⟩
      obtain ⟨rv, hrv⟩ : ∃ x, objV obj Z kd = x := ⟨_, rfl⟩
      obtain ⟨Z', hZ'⟩ : ∃ x, objL obj (mostOf most) Z kd kv = x := ⟨_, rfl⟩
      rw [hrc, hrv]
      rw [hZ'] at HT ⊢
      have HQ := Lib.hid (And.intro hrc (And.intro hrv hZ'))
      clear hrc hrv hZ'
      go_upto_region 7 with (fail)
      have x0 := (RBox.new w1 rc rv).c0
      have x1 := (RBox.new w1 rc rv).c1
      have HOw := Lib.hid (show ∀ o, ((w1.alloc (.cells #[.int .u8 rc, .int .i32 rv] 53)).alloc o).ownsRow w.heap.size 53 2 u10 k (flatO (runT obj (mostOf most) zs (os.take k))) from fun o => ((own_keep HR.out.o fun g hg => HT.out.2.2.2.block g (HR.out.o.lt g hg).2).alloc _).alloc o)
      have hsz : w.heap.size ≤ w1.heap.size := Nat.le_trans HR.out.b.size HT.out.2.2.2.size
      have HMore := Lib.hid (show ∀ (v' : Value) (w3 : World) (o1 o2 : Obj), w3.ownsRow w.heap.size 53 2 v' (k + 1) (flatO (runT obj (mostOf most) zs (os.take k)) ++ [.int .u8 rc, .int .i32 rv]) → ((w1.alloc o1).alloc o2).grownBy w3 (Value.ownBlock u10) → (∀ g, v'.ownBlock = some g → Value.ownBlock u10 = some g ∨ ((w1.alloc o1).alloc o2).heap.size ≤ g) → RefRunAt w ao obj (mostOf most) zs os (k + 1) (.slice a' Z'.length c') v' w3 from fun v' w3 o1 o2 q g l => RefRunAt.next HZ.out HN.out hlt HKD.out HR.out HQ.out.1 HQ.out.2.1 HQ.out.2.2 HT.out.1 HT.out.2.1 HT.out.2.2.1 HT.out.2.2.2 rfl q g l)
      go_wp2_with (at_builtin; refine wpList_append_later rfl (.tmp 32) (.tmp 34) 33 rfl w.heap.size 53 j0 _ 2 8 Tryz.underlying33 hj hy0 hy1 hy2 rfl (by decide) _ _ _ rfl (HOw.out _) ⟨_, 0, none⟩ 1 1 [.int .u8 rc, .int .i32 rv] rfl rfl (op_cells2 _ _ _ _ (by simp)) (op_one _ _) (by simp only [maxLen]; omega) (by omega) (by simp; omega) ?_; intro v2 w2 q2 g2 l2; have HNx := Lib.hid (HMore.out _ _ _ _ q2 g2 l2); clear q2 g2 l2)
      go_roundw
      case rel => exact ⟨k + 1, by omega, by go_num, HNx.out⟩
      case measure => simp [intOf]; omega
    · obtain rfl : k = n := by omega
      have HF := Lib.hid (hr.done HN.out)
      clear hr hlt
      go_wp2
      go_ret2
      exact HF.out

end Go.Proofs.YtniefplgijpckaaGreat
