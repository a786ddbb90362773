/-
  Batch of package spec does operations by their order, and tells each in its own place. Conditions: at most a thousand items and a thousand operations.
-/
import Derived.Test.YtejnadokjnfagaaApply8
import Derived.Test.YtejnadokjnfagaaOrder8
namespace Go.Proofs.Ytejnadokjnfagaa
open Go.RowKit Go.Lib

/-- The operations by their order. -/
def ordO (obj : Int) (os : List (Int × Int)) : List (Int × Int) := (ordL obj os).map (fun i => os.getD i.toNat (0, 0))
theorem ordO_length (obj : Int) (os : List (Int × Int)) : (ordO obj os).length = os.length := by simp [ordO, ordL_length]
theorem ordO_at {obj : Int} {os : List (Int × Int)} {i : Nat} (h : i < os.length) : (ordO obj os).getD i (0, 0) = os.getD ((ordL obj os).getD i 0).toNat (0, 0) := by
  have hl : i < (ordL obj os).length := by rw [ordL_length]; exact h
  simp [ordO, List.getD, hl]
/-- What is told, put into its own places, of the first k. -/
def placeK (l : List Int) (t : List (Int × Int)) (n : Nat) : Nat → List (Int × Int)
  | 0 => List.replicate n (0, 0)
  | k + 1 => (placeK l t n k).set (l.getD k 0).toNat (t.getD k (0, 0))
theorem placeK_length (l : List Int) (t : List (Int × Int)) (n : Nat) : ∀ k, (placeK l t n k).length = n
  | 0 => by simp [placeK]
  | k + 1 => by simp [placeK, placeK_length l t n k]
/-- What a batch leaves, and tells. -/
def batZ (obj m : Int) (zs : List Int) (os : List (Int × Int)) : List Int := runZ obj m zs (ordO obj os)
def batT (obj m : Int) (zs : List Int) (os : List (Int × Int)) : List (Int × Int) := placeK (ordL obj os) (runT obj m zs (ordO obj os)) os.length os.length
theorem batT_length (obj m : Int) (zs : List Int) (os : List (Int × Int)) : (batT obj m zs os).length = os.length := placeK_length _ _ _ _

/-- A row of operations, in a block of its own. -/
def ORow (w : World) (b : Nat) (rs : List (Int × Int)) : Prop := w.heap[b]? = some (.cells (flatO rs).toArray 36 (0, 0))
section
variable {w w' : World} {b i : Nat} {rs : List (Int × Int)}
theorem ORow.lt (h : ORow w b rs) : b < w.heap.size := lt_of_block h
theorem ORow.below (h : ORow w b rs) (hb : Below w.heap.size w w') : ORow w' b rs := (hb.block b h.lt).trans h
theorem ORow.free (h : ORow w b rs) (j : Nat) : w.frozen? ⟨b, j, none⟩ = false := by unfold ORow at h; simp [World.frozen?, h]
theorem ORow.cells (h : ORow w b rs) (hi : i < rs.length) : w.cell? ⟨b, i * 2, none⟩ = some (.int .u8 (rs.getD i (0, 0)).1) ∧ w.cell? ⟨b, i * 2 + 1, none⟩ = some (.int .i32 (rs.getD i (0, 0)).2) := by
  obtain ⟨h1, h2⟩ := flatO_at rs i hi
  unfold ORow at h
  simp [World.cell?, h, h1, h2]
theorem ORow.set2 (h : ORow w b rs) (i : Nat) (c x : Int) : ORow ((w.setCell ⟨b, i * 2, none⟩ (.int .u8 c)).setCell ⟨b, i * 2 + 1, none⟩ (.int .i32 x)) b (rs.set i (c, x)) := by
  unfold ORow at h ⊢
  rw [heap_setCell_same _ b _ _ _ _ (heap_setCell_same w b _ _ _ _ h), ← flatO_set]
  simp
theorem ORow.ops (h : ORow w b rs) : OpsAt w (some ⟨b, 0, none⟩) rs.length rs := ⟨rfl, fun _ => ⟨b, 0, rfl, h.lt, fun i hi => by simpa using h.cells hi⟩⟩
end

theorem madeOps {w w1 : World} {n : Nat} (ho : w1.ownsRow w.heap.size 36 2 (.slice (some ⟨w.heap.size, 0, none⟩) n n) n (madeCells (Value.agg #[.int .u8 0, .int .i32 0]).cells (n * 2)).toList) (hg : w.grownBy w1 none) :
    ORow w1 w.heap.size (List.replicate n (0, 0)) ∧ Below w.heap.size w w1 := by
  refine ⟨?_, (Below.refl _ _).grown hg (Nat.le_refl _) (by simp)⟩
  rw [made_two] at ho
  rcases ho.2 with ⟨h', _⟩ | ⟨g', cap', cur, h', _, hgg, _, _, hcs, htake⟩
  · simp at h'
  · simp only [Value.slice.injEq, Option.some.injEq, Addr.mk.injEq, and_true, true_and] at h'
    obtain ⟨rfl, rfl⟩ := h'
    unfold ORow
    rw [hgg, ← htake, List.take_of_length_le (by simp; omega)]

/-- What Batch leaves. -/
def BatchPost (w : World) (obj m : Int) (zs : List Int) (os : List (Int × Int)) (e : Ending) (w' : World) : Prop :=
  ∃ v' b, e = .returned (.tuple #[v', .slice (some ⟨b, 0, none⟩) os.length os.length]) ∧ Tail w' v' ((batZ obj m zs os).map (Value.int .i32)) ∧ RRow w' b (batT obj m zs os) ∧ (∀ g, v'.ownBlock = some g → w.heap.size ≤ g ∧ g ≠ b) ∧ w.heap.size ≤ b ∧ Below w.heap.size w w'

/-- The second loop's relation. -/
structure PlaceAt (w : World) (L : List Int) (T : List (Int × Int)) (ao : Option Addr) (n b2 b3 : Nat) (v : Value) (Z : List Int) (k : Nat) (wr : World) : Prop where
  o : Reads .i64 wr ao n L
  t : RRow wr b2 T
  p : RRow wr b3 (placeK L T n k)
  z : Tail wr v (Z.map (Value.int .i32))
  b : Below w.heap.size w wr
  n2 : b2 ≠ b3
  nv : v.ownBlock ≠ some b3
  no : ∀ a, ao = some a → 0 < n → a.block ≠ b3
  bb : w.heap.size ≤ b3

theorem PlaceAt.next {w wr : World} {L : List Int} {T : List (Int × Int)} {ao : Option Addr} {n b2 b3 : Nat} {v : Value} {Z : List Int} {k p : Nat} {c x : Int} (h : PlaceAt w L T ao n b2 b3 v Z k wr) (hk : k < n) (hp : (L.getD k 0).toNat = p) (ht : T.getD k (0, 0) = (c, x)) :
    PlaceAt w L T ao n b2 b3 v Z (k + 1) ((wr.setCell ⟨b3, p * 2, none⟩ (.int .u8 c)).setCell ⟨b3, p * 2 + 1, none⟩ (.int .i32 x)) := by
  have hw : Wrote (fun g => g = b3) wr ((wr.setCell ⟨b3, p * 2, none⟩ (.int .u8 c)).setCell ⟨b3, p * 2 + 1, none⟩ (.int .i32 x)) :=
    ((Wrote.refl (fun g => g = b3) wr).setCell (q := ⟨b3, p * 2, none⟩) (.inr rfl) _).setCell (q := ⟨b3, p * 2 + 1, none⟩) (.inr rfl) _
  refine ⟨h.o.off (fun a ha => h.no a ha (by omega)) hw, h.t.keep (hw.block b2 h.t.lt h.n2), ?_, h.z.keep hw.size (fun g hg => hw.block g (h.z.lt hg) (fun e => h.nv (by rw [← e]; exact hg))), h.b.trans (hw.below h.b.size (fun g hg => by have := h.bb; omega)), h.n2, h.nv, h.no, h.bb⟩
  have := h.p.set2 p c x
  unfold placeK
  rw [hp, ht]
  exact this

set_option maxRecDepth 100000 in
set_option maxHeartbeats 16000000 in
theorem batchAny (w : World) (obj most : Int) (ao ap : Option Addr) (nz capz n cap : Nat) (zs : List Int) (os : List (Int × Int)) (hz : Reads .i32 w ao nz zs) (ho : OpsAt w ap n os) (hnz : nz ≤ 1000) (hn : n ≤ 1000) :
    Calls Try.prog 19 #[.int .u8 obj, .int .i64 most, .slice ao nz capz, .slice ap n cap] w (BatchPost w obj (mostOf most) zs os) := by
  obtain ⟨i0, hi, hz0, hz1, hz2⟩ := info_parts infoOp
  obtain ⟨j0, hj, hy0, hy1, hy2⟩ := info_parts infoRes
  have HZ := Lib.hid hz
  have HO := Lib.hid ho
  have HL := Lib.hid ho.1
  have C := orderAny w obj ap n cap os ho hn
  have HC := Lib.hid C
  clear hz ho C
  have HLL := Lib.hid (show (ordL obj os).length = n by rw [ordL_length]; exact HL.out)
  go_enter Try.func19, Try.ntmps19
  go_wp2_with fail
  refine HC.out.mono ?_
  rintro e w1 ⟨al, cl, rfl, r1, _, l1, b1⟩
  rw [HLL.out] at r1 ⊢
  have HR1 := Lib.hid r1
  have HB1 := Lib.hid b1
  have HL1 := Lib.hid l1
  clear r1 l1 b1 HC
  go_upto_region 3 with (at_make; refine wpList_make_full _ rfl _ _ 23 rfl w1.heap.size 36 i0 _ 2 Try.underlying23 hi hz0 hz1 .i64 .i64 _ _ n rfl rfl rfl rfl (by rw [hz2]; omega) (by simp only [maxLen]; omega) (Nat.le_refl _) ?_; intro w2 hown2 hgrow2; have HM := Lib.hid (madeOps hown2 hgrow2); clear hown2 hgrow2)
  have HAl := Lib.hid (show ∀ a, al = some a → 0 < n → a.block < w1.heap.size from fun a ha hp => by obtain ⟨b, off, e, l, _⟩ := HR1.out.2 hp; rw [e] at ha; injection ha with ha; subst ha; exact l)
  generalize hb1 : w1.heap.size = b1 at *
  have HB1s := Lib.hid (show w.heap.size ≤ b1 by have := HB1.out.size; omega)
  have HS := Lib.hid (show ORow w2 b1 (toldK ((ordO obj os).take 0) n 0) ∧ Below w.heap.size w w2 ∧ Reads .i64 w2 al n (ordL obj os) from
    ⟨by simpa [toldK] using HM.out.1, HB1.out.trans (HM.out.2.mono (by have := HB1s.out; exact this)), HR1.out.keep (by rw [hb1]; exact HM.out.2)⟩)
  clear HM hb1
  go_wp2_with fail
  go_loopw [27] (fun i wr => ∃ k : Nat, k ≤ n ∧ i = .int .i64 k ∧ Hid (ORow wr b1 (toldK ((ordO obj os).take k) n k) ∧ Below w.heap.size w wr ∧ Reads .i64 wr al n (ordL obj os))) (fun i _ => n - (intOf i).toNat)
  case atStart => exact ⟨0, Nat.zero_le _, rfl, HS⟩
  case round =>
    obtain ⟨k, hk, rfl, HR⟩ := hrel
    clear HS
    by_cases hlt : k < n
    · obtain ⟨bl, ol, rfl, ll, hcl⟩ := HR.out.2.2.2 (by omega)
      have cz := hcl k hlt
      have hzb := ordL_at (obj := obj) (os := os) (i := k) (by rw [HL.out]; exact hlt)
      obtain ⟨z, hz⟩ : ∃ z, (ordL obj os).getD k 0 = z := ⟨_, rfl⟩
      rw [hz] at cz hzb
      rw [HL.out] at hzb
      obtain ⟨p, hp⟩ : ∃ p, z.toNat = p := ⟨_, rfl⟩
      have hpn : p < n := by omega
      obtain ⟨bo, off, rfl, bol, hc⟩ := HO.out.2 (by omega)
      obtain ⟨y0, y1⟩ := hc p hpn
      have y0 := (HR.out.2.1.cell (p := ⟨bo, off + p * 2, none⟩) bol).trans y0
      have y1 := (HR.out.2.1.cell (p := ⟨bo, off + p * 2 + 1, none⟩) bol).trans y1
      have e1 : (ordO obj os).getD k (0, 0) = os.getD p (0, 0) := by rw [ordO_at (by rw [HL.out]; exact hlt), hz, hp]
      obtain ⟨kd, hkd⟩ : ∃ x, (os.getD p (0, 0)).1 = x := ⟨_, rfl⟩
      obtain ⟨kv, hkv⟩ : ∃ x, (os.getD p (0, 0)).2 = x := ⟨_, rfl⟩
      rw [hkd] at y0
      rw [hkv] at y1
      have htl : ((ordO obj os).take k).length = k := by simp [ordO_length]; rw [HL.out]; omega
      have hr := HR.out.1
      obtain ⟨c0, c1⟩ := hr.cells (i := k) (by simp [toldK, ordO_length]; rw [HL.out]; omega)
      have fz := hr.free
      have hset := hr.set2 k kd kv
      rw [toldK_put _ _ _ _ _ htl hlt] at hset
      have e2 : (ordO obj os).take (k + 1) = (ordO obj os).take k ++ [(kd, kv)] := take_op8 _ k (by rw [ordO_length, HL.out]; exact hlt) (by rw [e1, ← hkd, ← hkv])
      rw [← e2] at hset
      have HQ := Lib.hid (show ORow ((wr.setCell ⟨b1, k * 2, none⟩ (.int .u8 kd)).setCell ⟨b1, k * 2 + 1, none⟩ (.int .i32 kv)) b1 (toldK ((ordO obj os).take (k + 1)) n (k + 1)) ∧ Below w.heap.size w ((wr.setCell ⟨b1, k * 2, none⟩ (.int .u8 kd)).setCell ⟨b1, k * 2 + 1, none⟩ (.int .i32 kv)) ∧ Reads .i64 ((wr.setCell ⟨b1, k * 2, none⟩ (.int .u8 kd)).setCell ⟨b1, k * 2 + 1, none⟩ (.int .i32 kv)) (some ⟨bl, ol, none⟩) n (ordL obj os) from
        ⟨hset, (HR.out.2.1.setCell (p := ⟨b1, k * 2, none⟩) HB1s.out _).setCell (p := ⟨b1, k * 2 + 1, none⟩) HB1s.out _,
          HR.out.2.2.off (F := fun g => g = b1) (fun a ha hg => by have := HAl.out a ha (by omega); simp only at hg; omega) (((Wrote.refl (fun g => g = b1) wr).setCell (q := ⟨b1, k * 2, none⟩) (.inr rfl) _).setCell (q := ⟨b1, k * 2 + 1, none⟩) (.inr rfl) _)⟩)
      have i1 : (k : Int) < n := by omega
      have z0 := hzb.1
      have z1 := hzb.2
      clear hcl hz hzb hc e1 hkd hkv htl hr hset e2 HR
      go_wp2
      go_roundw
      case rel => exact ⟨k + 1, by omega, by go_num, HQ⟩
      case measure => simp [intOf]; omega
    · obtain rfl : k = n := by omega
      have hO : ORow wr b1 (ordO obj os) := by
        have := HR.out.1
        unfold toldK at this
        rw [List.take_of_length_le (by rw [ordO_length, HL.out]; exact Nat.le_refl _), Nat.sub_self, List.replicate_zero, List.append_nil] at this
        exact this
      have hops := hO.ops
      rw [ordO_length, HL.out] at hops
      have C := runAny wr obj most ao (some ⟨b1, 0, none⟩) nz capz k k zs (ordO obj os) (HZ.out.keep HR.out.2.1) hops hnz hn
      have HC := Lib.hid C
      have HW := Lib.hid HR.out.2
      have HW1 := Lib.hid HR.out.2.1.size
      clear C hO hops HR hlt
      go_wp2_with fail
      refine HC.out.mono ?_
      rintro e w5 ⟨v', b2, rfl, t5, r5, n5, bb5, bl5⟩
      rw [ordO_length, HL.out]
      have HT5 := Lib.hid t5
      have HR5 := Lib.hid r5
      have HN5 := Lib.hid n5
      have HB5 := Lib.hid (HW.out.1.trans (bl5.mono HW.out.1.size))
      have HO5 := Lib.hid (HW.out.2.keep bl5)
      clear t5 r5 n5 bb5 bl5 HC HW
      go_upto_region 10 with (at_make; refine wpList_make_full _ rfl _ _ 38 rfl w5.heap.size 32 j0 _ 2 Try.underlying38 hj hy0 hy1 .i64 .i64 _ _ k rfl rfl rfl rfl (by rw [hy2]; omega) (by simp only [maxLen]; omega) (Nat.le_refl _) ?_; intro w6 hown6 hgrow6; have HN := Lib.hid (madeRes hown6 hgrow6); clear hown6 hgrow6)
      have HP := Lib.hid (show PlaceAt w (ordL obj os) (runT obj (mostOf most) zs (ordO obj os)) al k b2 w5.heap.size v' (runZ obj (mostOf most) zs (ordO obj os)) 0 w6 from
        ⟨HO5.out.keep HN.out.2, HR5.out.below HN.out.2, by simpa [placeK] using HN.out.1, tail_in HT5.out HN.out.2, HB5.out.trans (HN.out.2.mono HB5.out.size), by have := HR5.out.lt; omega, fun e => by have := HT5.out.lt e; omega, fun a ha hp => by have := HO5.out.2 hp; obtain ⟨b, off, e, l, _⟩ := this; rw [e] at ha; injection ha with ha; subst ha; simp only; omega, HB5.out.size⟩)
      have HN5' := Lib.hid (show ∀ g, v'.ownBlock = some g → w.heap.size ≤ g ∧ g ≠ w5.heap.size from fun g hg => ⟨by have := (HN5.out g hg).1; have := HW1.out; omega, by have := HT5.out.lt hg; omega⟩)
      clear HN HT5 HR5 HB5 HO5 HN5
      generalize w5.heap.size = b3 at *
      go_wp2_with fail
      go_loopw [53] (fun i wr => ∃ q : Nat, q ≤ k ∧ i = .int .i64 q ∧ PlaceAt w (ordL obj os) (runT obj (mostOf most) zs (ordO obj os)) al k b2 b3 v' (runZ obj (mostOf most) zs (ordO obj os)) q wr) (fun i _ => k - (intOf i).toNat)
      case atStart => exact ⟨0, Nat.zero_le _, rfl, HP.out⟩
      case round =>
        obtain ⟨q, hq, rfl, hp⟩ := hrel
        have HQ := Lib.hid hp
        clear HP hp
        by_cases hlt : q < k
        · obtain ⟨bl, ol, rfl, ll, hcl⟩ := HQ.out.o.2 (by omega)
          have cz := hcl q hlt
          have hzb := ordL_at (obj := obj) (os := os) (i := q) (by rw [HL.out]; exact hlt)
          obtain ⟨z, hz⟩ : ∃ z, (ordL obj os).getD q 0 = z := ⟨_, rfl⟩
          rw [hz] at cz hzb
          rw [HL.out] at hzb
          obtain ⟨p, hp⟩ : ∃ p, z.toNat = p := ⟨_, rfl⟩
          have hpn : p < k := by omega
          have htl : (runT obj (mostOf most) zs (ordO obj os)).length = k := by rw [runT_length, ordO_length]; exact HL.out
          obtain ⟨t0, t1⟩ := HQ.out.t.cells (i := q) (by rw [htl]; exact hlt)
          obtain ⟨c0, c1⟩ := HQ.out.p.cells (i := p) (by rw [placeK_length]; exact hpn)
          have fz := HQ.out.p.free
          obtain ⟨tc, htc⟩ : ∃ x, ((runT obj (mostOf most) zs (ordO obj os)).getD q (0, 0)).1 = x := ⟨_, rfl⟩
          obtain ⟨tx, htx⟩ : ∃ x, ((runT obj (mostOf most) zs (ordO obj os)).getD q (0, 0)).2 = x := ⟨_, rfl⟩
          rw [htc] at t0
          rw [htx] at t1
          have HQ2 := Lib.hid (HQ.out.next (p := p) hlt (by rw [hz]; exact hp) (show _ = (tc, tx) by rw [← htc, ← htx]))
          have i1 : (q : Int) < k := by omega
          have z0 := hzb.1
          have z1 := hzb.2
          clear hcl hz hzb htc htx htl HQ
          go_wp2
          go_roundw
          case rel => exact ⟨q + 1, by omega, by go_num, HQ2.out⟩
          case measure => simp [intOf]; omega
        · obtain rfl : q = k := by omega
          have HF := Lib.hid (show BatchPost w obj (mostOf most) zs os (.returned (.tuple #[v', .slice (some ⟨b3, 0, none⟩) q q])) wr from by
            refine ⟨v', b3, by rw [HL.out], HQ.out.z, ?_, HN5'.out, HQ.out.bb, HQ.out.b⟩
            have := HQ.out.p
            unfold batT
            rw [HL.out]
            exact this)
          clear HQ hlt
          go_wp2
          go_ret2
          exact HF.out

end Go.Proofs.Ytejnadokjnfagaa
