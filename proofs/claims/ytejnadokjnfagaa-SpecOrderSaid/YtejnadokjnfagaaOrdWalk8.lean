/-
  The walk of SpecOrder: for all objects, operations and bytes it answers true and leaves all old memory as it was.
-/
import Derived.Test.YtejnadokjnfagaaOBox8
import Derived.Test.YtejnadokjnfagaaOrdFine8
namespace Go.Proofs.Ytejnadokjnfagaa
open Go.RowKit Go.Lib

theorem infoBool : (Try.prog.info? 4).map (fun i => (i.zero, i.size, i.bytes)) = some (some (.bool false), 1, 1) := by kernel_rfl

/-- A row of what is true, in a block of its own. -/
def BRow (w : World) (b : Nat) (bs : List Bool) : Prop := w.heap[b]? = some (.cells (bs.map Value.bool).toArray 4 (0, 0))
section
variable {w w' : World} {b i : Nat} {bs : List Bool}
theorem BRow.lt (h : BRow w b bs) : b < w.heap.size := lt_of_block h
theorem BRow.below (h : BRow w b bs) (hb : Below w.heap.size w w') : BRow w' b bs := (hb.block b h.lt).trans h
theorem BRow.free (h : BRow w b bs) (j : Nat) : w.frozen? ⟨b, j, none⟩ = false := by unfold BRow at h; simp [World.frozen?, h]
theorem BRow.cell (h : BRow w b bs) (hi : i < bs.length) : w.cell? ⟨b, i, none⟩ = some (.bool (bs.getD i false)) := by
  unfold BRow at h
  simp [World.cell?, h, List.getD, hi]
theorem BRow.set (h : BRow w b bs) (i : Nat) (x : Bool) : BRow (w.setCell ⟨b, i, none⟩ (.bool x)) b (bs.set i x) := by
  unfold BRow at h ⊢
  rw [heap_setCell_same w b _ _ _ _ h, List.map_set]
  simp
theorem madeBools {w w1 : World} {n : Nat} (ho : w1.ownsRow w.heap.size 4 1 (.slice (some ⟨w.heap.size, 0, none⟩) n n) n (madeCells (Value.bool false).cells (n * 1)).toList) (hg : w.grownBy w1 none) :
    BRow w1 w.heap.size (List.replicate n false) ∧ Below w.heap.size w w1 := by
  have hr := rowWhole ho
  rw [show (Value.bool false).cells = #[Value.bool false] from rfl, Nat.mul_one, toList_madeCells_one] at hr
  exact ⟨by unfold BRow; rw [List.map_replicate]; exact hr, (Below.refl _ _).grown hg (Nat.le_refl _) (by simp)⟩
end

/-- What holds at each round's head. -/
structure SeenAt (w : World) (L : List Int) (al : Option Addr) (n b k : Nat) (wr : World) : Prop where
  s : BRow wr b (seenK L n k)
  bl : Below w.heap.size w wr
  l : Reads .i64 wr al n L

theorem SeenAt.next {w wr : World} {L : List Int} {al : Option Addr} {n b k p : Nat} (h : SeenAt w L al n b k wr) (hb : w.heap.size ≤ b) (hal : 0 < n → ∀ a, al = some a → a.block ≠ b) (hk : k < n) (hp : (L.getD k 0).toNat = p) : SeenAt w L al n b (k + 1) (wr.setCell ⟨b, p, none⟩ (.bool true)) := by
  refine ⟨by unfold seenK; rw [hp]; exact h.s.set p true, h.bl.setCell (p := ⟨b, p, none⟩) hb _, h.l.off (F := fun g => g = b) (fun a ha hg => hal (by omega) a ha hg) ((Wrote.refl (fun g => g = b) wr).setCell (q := ⟨b, p, none⟩) (.inr rfl) _)⟩
theorem SeenAt.fresh {w wr w' : World} {L : List Int} {al : Option Addr} {n b k : Nat} (h : SeenAt w L al n b k wr) (hb : Below wr.heap.size wr w') : SeenAt w L al n b k w' :=
  ⟨h.s.below hb, h.bl.trans (hb.mono h.bl.size), h.l.keep hb⟩

theorem seen_not {obj : Int} {os : List (Int × Int)} {n k p : Nat} (hn : os.length = n) (hk : k < n) (hp : ((ordL obj os).getD k 0).toNat = p) : (seenK (ordL obj os) n k).getD p false = false := by
  rw [← hp]
  exact seenK_not (ordL_nodup _ _) (fun x hx => by have := mem_ordL.1 hx; omega) k k (Nat.le_refl _) (by rw [ordL_length]; omega)

set_option maxRecDepth 100000 in
set_option maxHeartbeats 16000000 in
theorem orderOther (w : World) (obj : Int) (ao : Option Addr) (n cap : Nat) (os : List (Int × Int)) (ho : OpsAt w ao n os) (hn : n ≤ 1000) (h3 : ¬ obj = 3) :
    Calls Try.prog 14 #[.int .u8 obj, .slice ao n cap] w fun e w' => e = .returned (.bool true) ∧ Below w.heap.size w w' := by
  obtain ⟨i0, hi, hz0, hz1, hz2⟩ := info_parts infoBool
  have HL := Lib.hid ho.1
  have HC := Lib.hid (orderAny w obj ao n cap os ho hn)
  have HLL := Lib.hid (show (ordL obj os).length = n by rw [ordL_length]; exact HL.out)
  have HP := Lib.hid (ordL_plain (os := os) h3)
  have d3 := beq_eq_false_iff_ne.2 h3
  clear ho h3
  go_enter Try.func14, Try.ntmps14
  go_wp2_with fail
  refine HC.out.mono ?_
  rintro e w1 ⟨al, cl, rfl, r1, _, l1, b1⟩
  rw [HLL.out] at r1 ⊢
  have HR1 := Lib.hid r1
  have HB1 := Lib.hid b1
  clear r1 l1 b1 HC
  go_upto_region 3 with (at_make; refine wpList_make_full _ rfl _ _ 50 rfl w1.heap.size 4 i0 _ 1 Try.underlying50 hi hz0 hz1 .i64 .i64 _ _ n rfl rfl rfl rfl (by rw [hz2]; omega) (by simp only [maxLen]; omega) (Nat.le_refl _) ?_; intro w2 hown2 hgrow2; have HM := Lib.hid (madeBools hown2 hgrow2); clear hown2 hgrow2)
  have HAl := Lib.hid (show 0 < n → ∀ a, al = some a → a.block ≠ w1.heap.size from fun hp a ha => by obtain ⟨b, off, e, l, _⟩ := HR1.out.2 hp; rw [e] at ha; injection ha with ha; subst ha; simp only; omega)
  have HS := Lib.hid (show SeenAt w (ordL obj os) al n w1.heap.size 0 w2 from ⟨HM.out.1, HB1.out.trans (HM.out.2.mono HB1.out.size), HR1.out.keep HM.out.2⟩)
  have HBs := Lib.hid HB1.out.size
  clear HM HR1 HB1
  generalize w1.heap.size = b1 at *
  go_wp2_with fail
  go_loopw [7] (fun i wr => ∃ k : Nat, k ≤ n ∧ i = .int .i64 k ∧ SeenAt w (ordL obj os) al n b1 k wr) (fun i _ => n - (intOf i).toNat)
  case atStart => exact ⟨0, Nat.zero_le _, rfl, HS.out⟩
  case round =>
    obtain ⟨k, hk, rfl, hr⟩ := hrel
    have HR := Lib.hid hr
    clear HS hr
    by_cases hlt : k < n
    · obtain ⟨bl, ol, rfl, ll, hcl⟩ := HR.out.l.2 (by omega)
      have cz := hcl k hlt
      have ez : (ordL obj os).getD k 0 = k := by rw [HP.out]; exact idx_getD (by rw [HL.out]; exact hlt)
      rw [ez] at cz
      have cs := HR.out.s.cell (i := k) (by rw [seenK_length]; exact hlt)
      rw [seen_not HL.out hlt (by rw [ez]; simp)] at cs
      have fz := HR.out.s.free
      have HN := Lib.hid (HR.out.next HBs.out HAl.out hlt (show _ = k by rw [ez]; simp))
      have i1 : (k : Int) < n := by omega
      clear hcl ez HR
      go_wp2
      go_roundw
      case rel => exact ⟨k + 1, by omega, by go_num, HN.out⟩
      case measure => simp [intOf]; omega
    · obtain rfl : k = n := by omega
      clear hlt
      go_wp2
      go_ret
      exact ⟨rfl, HR.out.bl⟩

set_option maxRecDepth 100000 in
set_option maxHeartbeats 16000000 in
theorem orderHeap (w : World) (ao : Option Addr) (n cap : Nat) (os : List (Int × Int)) (ho : OpsAt w ao n os) (hn : n ≤ 1000) :
    Calls Try.prog 14 #[.int .u8 3, .slice ao n cap] w fun e w' => e = .returned (.bool true) ∧ Below w.heap.size w w' := by
  obtain ⟨i0, hi, hz0, hz1, hz2⟩ := info_parts infoBool
  have HL := Lib.hid ho.1
  have HO := Lib.hid ho
  have HC := Lib.hid (orderAny w 3 ao n cap os ho hn)
  have HLL := Lib.hid (show (ordL 3 os).length = n by rw [ordL_length]; exact HL.out)
  clear ho
  go_enter Try.func14, Try.ntmps14
  go_wp2_with fail
  refine HC.out.mono ?_
  rintro e w1 ⟨al, cl, rfl, r1, _, l1, b1⟩
  rw [HLL.out] at r1 ⊢
  have HR1 := Lib.hid r1
  have HB1 := Lib.hid b1
  clear r1 l1 b1 HC
  go_upto_region 3 with (at_make; refine wpList_make_full _ rfl _ _ 50 rfl w1.heap.size 4 i0 _ 1 Try.underlying50 hi hz0 hz1 .i64 .i64 _ _ n rfl rfl rfl rfl (by rw [hz2]; omega) (by simp only [maxLen]; omega) (Nat.le_refl _) ?_; intro w2 hown2 hgrow2; have HM := Lib.hid (madeBools hown2 hgrow2); clear hown2 hgrow2)
  have HAl := Lib.hid (show 0 < n → ∀ a, al = some a → a.block ≠ w1.heap.size from fun hp a ha => by obtain ⟨b, off, e, l, _⟩ := HR1.out.2 hp; rw [e] at ha; injection ha with ha; subst ha; simp only; omega)
  have HS := Lib.hid (show SeenAt w (ordL 3 os) al n w1.heap.size 0 w2 from ⟨HM.out.1, HB1.out.trans (HM.out.2.mono HB1.out.size), HR1.out.keep HM.out.2⟩)
  have HBs := Lib.hid HB1.out.size
  clear HM HR1 HB1
  generalize w1.heap.size = b1 at *
  go_wp2_with fail
  go_loopw [7] (fun i wr => ∃ k : Nat, k ≤ n ∧ i = .int .i64 k ∧ SeenAt w (ordL 3 os) al n b1 k wr) (fun i _ => n - (intOf i).toNat)
  case atStart => exact ⟨0, Nat.zero_le _, rfl, HS.out⟩
  case round =>
    obtain ⟨k, hk, rfl, hr⟩ := hrel
    have HR := Lib.hid hr
    clear HS hr
    by_cases hlt : k < n
    · obtain ⟨bl, ol, rfl, ll, hcl⟩ := HR.out.l.2 (by omega)
      have cz := hcl k hlt
      have hzb := ordL_at (obj := 3) (os := os) (i := k) (by rw [HL.out]; exact hlt)
      obtain ⟨q, hq⟩ : ∃ z : Int, (ordL 3 os).getD k 0 = z := ⟨_, rfl⟩
      rw [hq] at cz hzb
      rw [HL.out] at hzb
      obtain ⟨qn, rfl⟩ : ∃ p : Nat, q = p := ⟨q.toNat, by omega⟩
      have hqn : qn < n := by omega
      have cs := HR.out.s.cell (i := qn) (by rw [seenK_length]; exact hqn)
      rw [seen_not HL.out hlt (by rw [hq]; simp)] at cs
      have fz := HR.out.s.free
      have HN := Lib.hid (HR.out.next HBs.out HAl.out hlt (show _ = qn by rw [hq]; simp))
      have i1 : (k : Int) < n := by omega
      have z1 := hzb.2
      by_cases hk0 : k = 0
      · subst hk0
        rw [Nat.add_zero] at cz
        clear hcl hq hzb HR
        go_wp2
        go_roundw
        case rel => exact ⟨0 + 1, by omega, by go_num, HN.out⟩
        case measure => simp [intOf]; omega
      · obtain ⟨j, hj⟩ : ∃ j, k = j + 1 := ⟨k - 1, by omega⟩
        have hfine := ordL_next (os := os) (k := j) (by rw [HL.out]; omega)
        rw [← hj, hq] at hfine
        have hab := ordL_at (obj := 3) (os := os) (i := j) (by rw [HL.out]; omega)
        obtain ⟨p, hp⟩ : ∃ z : Int, (ordL 3 os).getD j 0 = z := ⟨_, rfl⟩
        rw [hp] at hab hfine
        rw [HL.out] at hab
        obtain ⟨pn, rfl⟩ : ∃ z : Nat, p = z := ⟨p.toNat, by omega⟩
        have hpn : pn < n := by omega
        rw [Int.toNat_natCast, Int.toNat_natCast] at hfine
        obtain ⟨a1, ha1⟩ : ∃ x, (os.getD pn (0, 0)).1 = x := ⟨_, rfl⟩
        obtain ⟨a2, ha2⟩ : ∃ x, (os.getD pn (0, 0)).2 = x := ⟨_, rfl⟩
        obtain ⟨b1', hb1⟩ : ∃ x, (os.getD qn (0, 0)).1 = x := ⟨_, rfl⟩
        obtain ⟨b2', hb2⟩ : ∃ x, (os.getD qn (0, 0)).2 = x := ⟨_, rfl⟩
        unfold fineO at hfine
        rw [ha1, ha2, hb1, hb2] at hfine
        obtain ⟨bo, off, rfl, bol, hc⟩ := HO.out.2 (by omega)
        have HCO := Lib.hid (show ∀ i, i < n → _ from hc)
        have HCA := Lib.hid (And.intro (hc pn hpn) (hc qn hqn))
        rw [ha1, ha2, hb1, hb2] at HCA
        have HQ := Lib.hid (And.intro hp hq)
        have HJ := Lib.hid hj
        have HF := Lib.hid hfine
        clear hcl hzb HR hp hq hab hc HCO ha1 ha2 hb1 hb2 hfine hj
        go_upto_region 12 with (fail)
        generalize (wr.setCell ⟨b1, qn, none⟩ (.bool true)) = w3 at *
        obtain ⟨bl', ol', e, _, hc3⟩ := HN.out.l.2 (by omega)
        simp only [Option.some.injEq, Addr.mk.injEq, and_true] at e
        obtain ⟨rfl, rfl⟩ := e
        have cp := hc3 j (by have := HJ.out; omega)
        have cq := hc3 k hlt
        rw [HQ.out.1] at cp
        rw [HQ.out.2] at cq
        have x0 := (HN.out.bl.cell (p := ⟨bo, off + pn * 2, none⟩) bol).trans HCA.out.1.1
        have x1 := (HN.out.bl.cell (p := ⟨bo, off + pn * 2 + 1, none⟩) bol).trans HCA.out.1.2
        have x2 := (HN.out.bl.cell (p := ⟨bo, off + qn * 2, none⟩) bol).trans HCA.out.2.1
        have x3 := (HN.out.bl.cell (p := ⟨bo, off + qn * 2 + 1, none⟩) bol).trans HCA.out.2.2
        have ej : IntKind.i64.wrap ((k : Int) - 1) = (j : Int) := by have := HJ.out; rw [IntKind.wrap_i64]; omega
        have ej2 : (k : Int) - 1 = (j : Int) := by have := HJ.out; omega
        have j0 : (j : Int) < n := by have := HJ.out; omega
        have p1 : (pn : Int) < n := by omega
        clear hc3 cz cs fz HAl
        have blb : bl < w3.heap.size := by have := HN.out.l.2 (by omega); obtain ⟨b, o, e, l, _⟩ := this; simp only [Option.some.injEq, Addr.mk.injEq, and_true] at e; omega
        have bob : bo < w3.heap.size := Nat.lt_of_lt_of_le bol HN.out.bl.size
        have HBB := Lib.hid (And.intro blb bob)
        clear blb bob
        go_upto_region 13 with (fail)
        have hbA : Below w3.heap.size w3 (w3.alloc (.cells #[.int .u8 a1, .int .i32 a2] 36)) := (Below.refl _ _).alloc (Nat.le_refl _) _
        have yA := OBox.new w3 a1 a2
        have cp := (hbA.cell (p := ⟨bl, ol + j, none⟩) HBB.out.1).trans cp
        have cq := (hbA.cell (p := ⟨bl, ol + k, none⟩) HBB.out.1).trans cq
        have x2 := (hbA.cell (p := ⟨bo, off + qn * 2, none⟩) HBB.out.2).trans x2
        have x3 := (hbA.cell (p := ⟨bo, off + qn * 2 + 1, none⟩) HBB.out.2).trans x3
        have HNA := Lib.hid (HN.out.fresh hbA)
        have hsA : (w3.alloc (.cells #[.int .u8 a1, .int .i32 a2] 36)).heap.size = w3.heap.size + 1 := by simp
        clear x0 x1 hbA HN
        generalize (w3.alloc (.cells #[.int .u8 a1, .int .i32 a2] 36)) = wA at *
        generalize w3.heap.size = gA at *
        go_upto_region 14 with (fail)
        have hbC : Below wA.heap.size wA (wA.alloc (.cells #[.int .u8 b1', .int .i32 b2'] 36)) := (Below.refl _ _).alloc (Nat.le_refl _) _
        have yB := OBox.new wA b1' b2'
        rw [hsA] at yB
        have yA := yA.keep hbC
        have cp := (hbC.cell (p := ⟨bl, ol + j, none⟩) (by have := HBB.out.1; simp only; omega)).trans cp
        have cq := (hbC.cell (p := ⟨bl, ol + k, none⟩) (by have := HBB.out.1; simp only; omega)).trans cq
        have HN4 := Lib.hid (HNA.out.fresh hbC)
        clear x2 x3 hbC HNA hsA
        generalize (wA.alloc (.cells #[.int .u8 b1', .int .i32 b2'] 36)) = w4 at *
        have y0 := yA.c0
        have y1 := yA.c1
        have y2 := yB.c0
        have y3 := yB.c1
        clear yA yB
        rcases HF.out with ⟨e1, e2, h | ⟨e3, h⟩⟩ | ⟨e1, e2⟩ | ⟨e1, e2, h⟩
        · subst e1 e2
          go_wp2
          go_quiet (fail)
          go_wp2
          go_roundw
          case rel => exact ⟨k + 1, by omega, by go_num, HN4.out.fresh (below_drewN (Below.refl _ _) _)⟩
          case measure => simp [intOf]; omega
        · subst e1 e2 e3
          go_wp2
          go_quiet (fail)
          go_wp2
          go_roundw
          case rel => exact ⟨k + 1, by omega, by go_num, HN4.out.fresh (below_drewN (Below.refl _ _) _)⟩
          case measure => simp [intOf]; omega
        · subst e1
          have d2 := beq_eq_false_iff_ne.2 e2
          clear e2
          go_wp2
          go_quiet (fail)
          go_wp2
          go_roundw
          case rel => exact ⟨k + 1, by omega, by go_num, HN4.out.fresh (below_drewN (Below.refl _ _) _)⟩
          case measure => simp [intOf]; omega
        · have d1 := beq_eq_false_iff_ne.2 e1
          have d2 := beq_eq_false_iff_ne.2 e2
          clear e1 e2
          go_wp2
          go_quiet (fail)
          go_wp2
          go_roundw
          case rel => exact ⟨k + 1, by omega, by go_num, HN4.out.fresh (below_drewN (Below.refl _ _) _)⟩
          case measure => simp [intOf]; omega
    · obtain rfl : k = n := by omega
      clear hlt
      go_wp2
      go_ret
      exact ⟨rfl, HR.out.bl⟩

end Go.Proofs.Ytejnadokjnfagaa
