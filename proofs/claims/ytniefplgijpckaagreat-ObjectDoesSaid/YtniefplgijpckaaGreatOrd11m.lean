/-
  parts and Order of package sorted tell the order of operations: as addsL, othersL and ordL say. Conditions: operations that lie in memory, at most a thousand.
-/
import Derived.Test.YtniefplgijpckaaGreatSrtC12
import Derived.Test.YtniefplgijpckaaGreatPl11m
namespace Go.Proofs.YtniefplgijpckaaGreat
open Go.RowKit

/-- Ints in new memory. -/
def IntsNew (w : World) (zs : List Int) (e : Ending) (w' : World) : Prop :=
  ∃ ao cap, e = .returned (.slice ao zs.length cap) ∧ Reads .i64 w' ao zs.length zs ∧ zs.length ≤ cap ∧ (∀ a, ao = some a → w.heap.size ≤ a.block) ∧ Below w.heap.size w w'

/-- Two rows of ints that grow beside one another, behind a variable that holds the operations. -/
structure Rows2 (w : World) (vb : Value) (va vo : Value) (za zo : List Int) (wr : World) : Prop where
  a : wr.ownsRow (w.heap.size + 1) 3 1 va za.length (za.map (Value.int .i64))
  o : wr.ownsRow (w.heap.size + 1) 3 1 vo zo.length (zo.map (Value.int .i64))
  ne : ∀ g, va.ownBlock = some g → vo.ownBlock ≠ some g
  b : Below w.heap.size w wr
  box : wr.heap[w.heap.size]? = some (.cells #[vb] 36 (0, 0))

section
variable {w wr w' : World} {vb va vo v' : Value} {za zo : List Int} {x : Int} {ob oc : Obj}
theorem Rows2.start (w : World) (vb : Value) : Rows2 w vb (.slice none 0 0) (.slice none 0 0) [] [] (w.alloc (.cells #[vb] 36)) :=
  ⟨World.ownsRow_nil _ _ _ _, World.ownsRow_nil _ _ _ _, (fun g h => by cases h), (Below.refl _ _).alloc (Nat.le_refl _) _, heap_alloc_new w _⟩
theorem Rows2.lt (h : Rows2 w vb va vo za zo wr) : w.heap.size + 1 ≤ wr.heap.size := lt_of_block h.box
theorem Rows2.alloc (h : Rows2 w vb va vo za zo wr) (o : Obj) : Rows2 w vb va vo za zo (wr.alloc o) :=
  ⟨h.a.alloc o, h.o.alloc o, h.ne, h.b.alloc h.b.size o, (Below.heap_alloc _ _ _ (by have := h.lt; omega)).trans h.box⟩
theorem Rows2.cell (h : Rows2 w vb va vo za zo wr) : wr.cell? ⟨w.heap.size, 0, none⟩ = some vb := by simp [World.cell?, h.box]
theorem Rows2.swap (h : Rows2 w vb va vo za zo wr) : Rows2 w vb vo va zo za wr := ⟨h.o, h.a, fun g h1 h2 => h.ne g h2 h1, h.b, h.box⟩
theorem Rows2.put (h : Rows2 w vb va vo za zo wr) (q : w'.ownsRow (w.heap.size + 1) 3 1 v' (za.length + 1) (za.map (Value.int .i64) ++ [.int .i64 x])) (g : wr.grownBy w' va.ownBlock) (l : ∀ g, v'.ownBlock = some g → va.ownBlock = some g ∨ wr.heap.size ≤ g) :
    Rows2 w vb v' vo (za ++ [x]) zo w' := by
  refine ⟨by simpa using q, h.o.kept g ?_, fun k hk ho => ?_, h.b.grown g h.b.size (fun k e => by have := (h.a.lt k e).1; omega), ?_⟩
  · cases hv : vo.ownBlock with
    | none => exact .inl rfl
    | some k => exact .inr (fun e => h.ne k e.symm hv)
  · rcases l k hk with h1 | h1
    · exact h.ne k h1 ho
    · have := (h.o.lt k ho).2; omega
  · rw [g.block w.heap.size (by have := h.lt; omega) (fun e => by have := (h.a.lt _ e.symm).1; omega)]
    exact h.box
end

theorem own_base {w : World} {base n g cap : Nat} {e : TypeId} {size : Nat} {xs : List Value} (h : w.ownsRow 0 e size (.slice (some ⟨g, 0, none⟩) n cap) n xs) (hb : base ≤ g) : w.ownsRow base e size (.slice (some ⟨g, 0, none⟩) n cap) n xs := by
  refine ⟨h.1, ?_⟩
  rcases h.2 with ⟨h', _⟩ | ⟨g', cap', cur, h', _, r⟩
  · simp at h'
  · have e1 := h'
    simp only [Value.slice.injEq, Option.some.injEq, Addr.mk.injEq, and_true, true_and] at e1
    obtain ⟨rfl, rfl⟩ := e1
    exact .inr ⟨g, cap, cur, rfl, hb, r⟩
theorem own_any {w : World} {base n g cap : Nat} {e : TypeId} {size : Nat} {xs : List Value} (h : w.ownsRow base e size (.slice (some ⟨g, 0, none⟩) n cap) n xs) : w.ownsRow 0 e size (.slice (some ⟨g, 0, none⟩) n cap) n xs := by
  refine ⟨h.1, ?_⟩
  rcases h.2 with ⟨h', _⟩ | ⟨g', cap', cur, h', _, r⟩
  · simp at h'
  · exact .inr ⟨g', cap', cur, h', Nat.zero_le _, r⟩

/-- The places are sorted. -/
theorem rows2_sort {w wr : World} {ao : Option Addr} {n cap : Nat} {os : List (Int × Int)} {va vo : Value} {za zo : List Int} (ho : OpsAt w ao n os) (hr : Rows2 w (.slice ao n cap) va vo za zo wr) (hz : Rises n za) (hn : n ≤ 1000) (hl : za.length ≤ n) (hoff : ∀ a, ao = some a → 0 < n → a.block < w.heap.size) :
    Calls Tryz.prog 157 #[va, .func (.func 158) #[] #[.pointer (some ⟨wr.heap.size, 0, none⟩)]] (wr.alloc (.cells #[keyF w.heap.size] 215)) fun e w' => e = .returned (.tuple #[]) ∧ Rows2 w (.slice ao n cap) va vo (sortB (keyOf os) za) zo w' := by
  have hbox : (wr.alloc (.cells #[keyF w.heap.size] 215)).cell? ⟨wr.heap.size, 0, none⟩ = some (keyF w.heap.size) := by simp
  have hsz : (wr.alloc (.cells #[keyF w.heap.size] 215)).heap.size = wr.heap.size + 1 := by simp
  have hgl : ∀ g, va.ownBlock = some g → g < wr.heap.size := fun g e => (hr.a.lt g e).2
  have hr := hr.alloc (.cells #[keyF w.heap.size] 215)
  generalize wr.alloc (.cells #[keyF w.heap.size] 215) = w1 at *
  generalize wr.heap.size = B at *
  have hr' := hr
  obtain ⟨h1, h2, h3, h4, h5⟩ := hr'
  rcases h1.2 with ⟨rfl, h0⟩ | ⟨g, cp, cur, rfl, hb, _⟩
  · have hz0 : za = [] := List.eq_nil_of_length_eq_zero h0
    subst hz0
    exact (sortNil w1 _).mono fun e w' ⟨he, hw⟩ => ⟨he, hw ▸ hr⟩
  · have hgB := hgl g rfl
    have hC : CmpAt (keyOf os) n B g w1 := fun W a b hW a0 a1 b0 b1 => by
      refine closAny os W B w.heap.size ao n cap a b ?_ ?_ ?_ a0 a1 b0 b1
      · rw [hW.cell (p := ⟨B, 0, none⟩) (by simp; omega) (by simp only [At1]; omega)]
        exact hbox
      · rw [hW.cell (p := ⟨w.heap.size, 0, none⟩) (by have := hr.lt; simp; omega) (by simp only [At1]; omega)]
        exact hr.cell
      · exact (ho.keep h4).off (fun a ha hg => by
          have : a.block < w.heap.size := hoff a ha (by omega)
          simp only [At1] at hg
          omega) hW
    refine (sortStable w1 (g := g) (n := za.length) (cap := cp) (key := keyOf os) (N := n) (B := B) za (own_any h1) hC hz (by omega)).mono ?_
    rintro e w' ⟨rfl, M, p, s, r, hw⟩
    obtain rfl := sortB_is p s
    have hl2 : (sortB (keyOf os) za).length = za.length := p.length_eq
    refine ⟨rfl, ⟨by rw [hl2]; exact own_base r hb, own_keep h2 fun k hk => hw.block k (h2.lt k hk).2 (fun e => h3 g rfl (by rw [← e]; exact hk)), h3, ?_, ?_⟩⟩
    · exact h4.trans (hw.below (by have := hr.lt; omega) (fun k e => by simp only [At1] at e; omega))
    · rw [hw.block w.heap.size (by have := hr.lt; omega) (by simp only [At1]; omega)]; exact h5

set_option maxRecDepth 100000 in
set_option maxHeartbeats 4000000 in
theorem sortByAny {w wr : World} {ao : Option Addr} {n cap : Nat} {os : List (Int × Int)} {va vo : Value} {za zo : List Int} (ho : OpsAt w ao n os) (hr : Rows2 w (.slice ao n cap) va vo za zo wr) (hz : Rises n za) (hn : n ≤ 1000) (hl : za.length ≤ n) (hoff : ∀ a, ao = some a → 0 < n → a.block < w.heap.size) :
    Calls Tryz.prog 150 #[va, keyF w.heap.size] wr fun e w' => e = .returned (.tuple #[]) ∧ Rows2 w (.slice ao n cap) va vo (sortB (keyOf os) za) zo w' := by
  have HC := Lib.hid (rows2_sort ho hr hz hn hl hoff)
  clear ho hr hz hn hl hoff
  unfold keyF at *
  go_enter Tryz.func150, Tryz.ntmps150
  go_wp2_with fail
  refine HC.out.mono ?_
  rintro e w2 ⟨rfl, r⟩
  have HR := Lib.hid r
  clear r HC
  go_wp2
  go_end0
  exact ⟨rfl, HR.out⟩

/-- What parts leaves. -/
def PartsPost (w : World) (vb : Value) (os : List (Int × Int)) (e : Ending) (w' : World) : Prop :=
  ∃ va vo, e = .returned (.tuple #[va, vo]) ∧ Rows2 w vb va vo (addsL os) (othersL os) w'

set_option maxRecDepth 100000 in
set_option maxHeartbeats 8000000 in
theorem partsAny (w : World) (ao : Option Addr) (n cap : Nat) (os : List (Int × Int)) (ho : OpsAt w ao n os) (hn : n ≤ 1000) :
    Calls Tryz.prog 138 #[.slice ao n cap] w (PartsPost w (.slice ao n cap) os) := by
  obtain ⟨i0, hi, hz0, hz1, hz2⟩ := info_parts infoInt
  have HO := Lib.hid ho
  have HF := Lib.hid (show ∀ a, ao = some a → 0 < n → a.block < w.heap.size from fun a ha hp => by obtain ⟨b, off, e, l, _⟩ := ho.2 hp; rw [e] at ha; injection ha with ha; subst ha; exact l)
  clear ho
  have HS := Lib.hid (Rows2.start w (.slice ao n cap))
  go_enter Tryz.func138, Tryz.ntmps138
  go_wp2_with (fail)
  go_loopw [2, 3, 8] (fun va vo i wr => ∃ k : Nat, k ≤ n ∧ i = .int .i64 k ∧ Rows2 w (.slice ao n cap) va vo (addsOf 3 os k) (othersOf 3 os k) wr) (fun _ _ i _ => n - (intOf i).toNat)
  case atStart => exact ⟨0, Nat.zero_le _, rfl, HS.out⟩
  case round =>
    obtain ⟨k, hk, rfl, hr⟩ := hrel
    clear HS
    have hbl := both_length 3 os k
    by_cases hlt : k < n
    · obtain ⟨b, off, rfl, bl, hc⟩ := HO.out.2 (by omega)
      have y0 := (hr.b.cell (p := ⟨b, off + k * 2, none⟩) bl).trans (hc k hlt).1
      have y1 := (hr.b.cell (p := ⟨b, off + k * 2 + 1, none⟩) bl).trans (hc k hlt).2
      have i1 : (k : Int) < n := by omega
      have HR := Lib.hid hr
      clear hr hc
      obtain ⟨kd, hkd⟩ : ∃ x, (os.getD k (0, 0)).1 = x := ⟨_, rfl⟩
      obtain ⟨kv, hkv⟩ : ∃ x, (os.getD k (0, 0)).2 = x := ⟨_, rfl⟩
      rw [hkd] at y0
      rw [hkv] at y1
      have HKD := Lib.hid hkd
      clear hkd hkv
      go_upto_region 4 with (fail)
      generalize hW : wr.alloc (.cells #[.int .u8 kd, .int .i32 kv] 49) = W
      have x0 : W.cell? ⟨wr.heap.size, 0, none⟩ = some (.int .u8 kd) := by subst hW; go_simp
      have HRW := Lib.hid (show Rows2 w (.slice (some ⟨b, off, none⟩) n cap) u2 u3 (addsOf 3 os k) (othersOf 3 os k) W by subst hW; exact HR.out.alloc _)
      clear hW y0 y1
      have hb0 : (addsOf 3 os k).length ≤ 1000 := by omega
      have hb1 : (othersOf 3 os k).length ≤ 1000 := by omega
      clear hbl
      by_cases h1 : kd = 1
      · have HE := Lib.hid (adds_yes (obj := 3) (os := os) (k := k) (by simp only [isAdd, Int.toNat_natCast, HKD.out, h1]; rfl))
        subst h1
        go_wp2_with (at_builtin; refine wpList_append_later rfl (.tmp 16) (.tmp 18) 73 rfl (w.heap.size + 1) 3 i0 _ 1 8 Tryz.underlying73 hi hz0 hz1 hz2 rfl (by decide) _ _ _ rfl (HRW.out.a.alloc _) ⟨_, 0, none⟩ 1 1 [.int .i64 k] rfl rfl (by intro j u hu; cases j <;> simp at hu; subst hu; go_simp) (by intro u hu; simp at hu; subst hu; rfl) (by simp only [maxLen]; omega) (by omega) (Nat.le_trans HRW.out.lt (by simp)) ?_; intro v2 w2 q2 g2 l2; have HN := Lib.hid ((HRW.out.alloc _).put q2 g2 l2); clear q2 g2 l2)
        go_roundw
        case rel => exact ⟨k + 1, by omega, by go_num, by rw [HE.out.1, HE.out.2]; exact HN.out⟩
        case measure => simp [intOf]; omega
      · have HE := Lib.hid (adds_no (obj := 3) (os := os) (k := k) (by simp only [isAdd, Int.toNat_natCast, HKD.out]; simpa using h1))
        have d1 : (kd == 1) = false := by simpa using h1
        clear h1
        go_wp2_with (at_builtin; refine wpList_append_later rfl (.tmp 20) (.tmp 22) 73 rfl (w.heap.size + 1) 3 i0 _ 1 8 Tryz.underlying73 hi hz0 hz1 hz2 rfl (by decide) _ _ _ rfl (HRW.out.o.alloc _) ⟨_, 0, none⟩ 1 1 [.int .i64 k] rfl rfl (by intro j u hu; cases j <;> simp at hu; subst hu; go_simp) (by intro u hu; simp at hu; subst hu; rfl) (by simp only [maxLen]; omega) (by omega) (Nat.le_trans HRW.out.lt (by simp)) ?_; intro v2 w2 q2 g2 l2; have HN := Lib.hid (((HRW.out.alloc _).swap.put q2 g2 l2).swap); clear q2 g2 l2)
        go_roundw
        case rel => exact ⟨k + 1, by omega, by go_num, by rw [HE.out.1, HE.out.2]; exact HN.out⟩
        case measure => simp [intOf]; omega
    · obtain rfl : k = n := by omega
      have HL := Lib.hid HO.out.1
      have hb0 : (addsOf 3 os k).length ≤ k := by omega
      have C := sortByAny HO.out hr (adds_rise 3 os k) hn hb0 HF.out
      have HC := Lib.hid C
      clear C hr hbl hlt
      unfold keyF at HC
      go_wp2_with (fail)
      refine HC.out.mono ?_
      rintro e w2 ⟨rfl, hr⟩
      have HR := Lib.hid (show PartsPost w (.slice ao k cap) os (.returned (.tuple #[u2, u3])) w2 from ⟨_, _, rfl, by unfold addsL othersL; rw [HL.out]; exact hr⟩)
      clear hr HC
      go_wp2
      go_ret2
      exact HR.out

set_option maxRecDepth 100000 in
set_option maxHeartbeats 8000000 in
theorem orderAny (w : World) (ao : Option Addr) (n cap : Nat) (os : List (Int × Int)) (ho : OpsAt w ao n os) (hn : n ≤ 1000) :
    Calls Tryz.prog 145 #[.slice ao n cap] w (IntsNew w (ordL 3 os)) := by
  obtain ⟨i0, hi, hz0, hz1, hz2⟩ := info_parts infoInt
  have HC := Lib.hid (partsAny w ao n cap os ho hn)
  have HL := Lib.hid ho.1
  have hpl := parts_length os
  rw [ho.1] at hpl
  clear ho
  go_enter Tryz.func145, Tryz.ntmps145
  go_wp2_with (fail)
  refine HC.out.mono ?_
  rintro e w2 ⟨va, vo, rfl, hr⟩
  obtain ⟨ao2, cp2, e2, r2, _, _⟩ := reads_own hr.o
  subst e2
  have HR := Lib.hid hr
  have HR2 := Lib.hid r2
  clear hr r2 HC
  have hb0 : (addsL os).length ≤ n := by omega
  have hb1 : (othersL os).length ≤ n := by omega
  go_wp2_with (at_builtin; refine wpList_append_src _ rfl (.tmp 10) (.tmp 11) 73 rfl (w.heap.size + 1) 3 i0 _ 1 8 Tryz.underlying73 hi hz0 hz1 hz2 rfl (by decide) _ _ _ rfl HR.out.a ao2 _ cp2 ((othersL os).map (Value.int .i64)) rfl (by simp) (reads_src HR2.out) (ints_oneCell _ _) (by simp only [maxLen]; omega) (by omega) HR.out.lt ?_; intro v3 w3 q3 g3; have HQ := Lib.hid q3; have HG := Lib.hid g3; clear q3 g3)
  have hq := HQ.out
  rw [← List.map_append, ← List.length_append, ← ordL_parts] at hq
  obtain ⟨a3, c3, e3, r3, l3, b3⟩ := reads_own hq
  subst e3
  have HFin := Lib.hid (show IntsNew w (ordL 3 os) (.returned (.slice a3 (ordL 3 os).length c3)) w3 from ⟨a3, c3, rfl, r3, l3, fun a ha => by have := b3 a ha; omega, HR.out.b.grown HG.out HR.out.b.size (fun k e => by have := (HR.out.a.lt k e).1; omega)⟩)
  clear hq r3 l3 b3
  go_wp2
  go_ret
  exact HFin.out

end Go.Proofs.YtniefplgijpckaaGreat
