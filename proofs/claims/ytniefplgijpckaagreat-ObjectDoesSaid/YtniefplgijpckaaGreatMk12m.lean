/-
  What reaperlaw12.Deeds makes of choices: at most twenty deeds, each of them fine. Conditions: at most a thousand bytes.
-/
import Derived.Test.YtniefplgijpckaaGreatDeA12
import Derived.Deep.RegionHeldLaw
namespace Go.Proofs.YtniefplgijpckaaGreat
open Go.RowKit Go.Lib

theorem infoDeed : (Tryz.prog.info? 38).map (fun i => (i.zero, i.size, i.bytes)) = some (some (.agg #[.int .u8 0, .slice none 0 0, .slice none 0 0]), 3, 56) := by kernel_rfl
theorem infoU8 : (Tryz.prog.info? 5).map (fun i => (i.zero, i.size, i.bytes)) = some (some (.int .u8 0), 1, 1) := by kernel_rfl

/-- A deed in a block of its own. -/
def DB (w : World) (g : Nat) (z : Int) (v u : Value) : Prop := w.heap[g]? = some (.cells #[.int .u8 z, v, u] 38 (0, 0))
section
variable {w w' : World} {g : Nat} {z : Int} {v u v' : Value}
theorem DB.lt (h : DB w g z v u) : g < w.heap.size := lt_of_block h
theorem DB.c0 (h : DB w g z v u) : w.cell? ⟨g, 0, none⟩ = some (.int .u8 z) := by unfold DB at h; simp [World.cell?, h]
theorem DB.c1 (h : DB w g z v u) : w.cell? ⟨g, 1, none⟩ = some v := by unfold DB at h; simp [World.cell?, h]
theorem DB.c2 (h : DB w g z v u) : w.cell? ⟨g, 2, none⟩ = some u := by unfold DB at h; simp [World.cell?, h]
theorem DB.f (h : DB w g z v u) (j : Nat) : w.frozen? ⟨g, j, none⟩ = false := by unfold DB at h; simp [World.frozen?, h]
theorem DB.keep (h : DB w g z v u) (hb : Below w.heap.size w w') : DB w' g z v u := (hb.block g h.lt).trans h
theorem DB.set (h : DB w g z v u) (v' : Value) : DB (w.setCell ⟨g, 1, none⟩ v') g z v' u := by
  unfold DB at h ⊢
  rw [heap_setCell_same w g 1 _ _ _ h]
  rfl
theorem DB.new (w : World) (z : Int) (v u : Value) : DB (w.alloc (.cells #[.int .u8 z, v, u] 38)) w.heap.size z v u := heap_alloc_new w _
end

theorem DB.four {w W w3 : World} (o : Obj) (ho : o = .cells #[.int .u8 0, .slice none 0 0, .slice none 0 0] 38 (0, 0)) (hW : (w.alloc o).drew = W) (hb : Below W.heap.size W w3) :
    w3.cell? ⟨w.heap.size, 0, none⟩ = some (.int .u8 0) ∧ w3.cell? ⟨w.heap.size, 1, none⟩ = some (.slice none 0 0) ∧ w3.cell? ⟨w.heap.size, 2, none⟩ = some (.slice none 0 0) ∧ w3.frozen? ⟨w.heap.size, 0, none⟩ = false ∧ w3.frozen? ⟨w.heap.size, 1, none⟩ = false ∧ w3.frozen? ⟨w.heap.size, 2, none⟩ = false := by
  subst ho hW
  have h : DB w3 w.heap.size 0 (.slice none 0 0) (.slice none 0 0) := (show DB (w.alloc _).drew w.heap.size 0 (.slice none 0 0) (.slice none 0 0) from DB.new w 0 _ _).keep hb
  exact ⟨h.c0, h.c1, h.c2, h.f 0, h.f 1, h.f 2⟩

/-- Behind a deed's making: its box, its operations in new memory. -/
structure MidD (wr : World) (g : Nat) (z : Int) (ap : Option Addr) (n cp : Nat) (os : List (Int × Int)) (W : World) : Prop where
  db : DB W g z (.slice none 0 0) (.slice ap n cp)
  ops : OpsAt W ap n os
  new : ∀ y, ap = some y → wr.heap.size ≤ y.block
  be : Below wr.heap.size wr W
  hg : wr.heap.size ≤ g
  ne : 0 < n → ∀ y, ap = some y → y.block ≠ g

section
variable {wr W W1 w3 : World} {z : Int} {os : List (Int × Int)} {ap : Option Addr} {cp n : Nat}
/-- First the operations, then the box. -/
theorem MidD.a (hb : Below wr.heap.size wr W) (h : OpsAt w3 ap n os ∧ (∀ a, ap = some a → W.heap.size ≤ a.block) ∧ Below W.heap.size W w3) (z : Int) : MidD wr w3.heap.size z ap n cp os (w3.alloc (.cells #[.int .u8 z, .slice none 0 0, .slice ap n cp] 38)) := by
  have hs := hb.size
  have h3 := h.2.2.size
  have ba : Below w3.heap.size w3 (w3.alloc (.cells #[.int .u8 z, .slice none 0 0, .slice ap n cp] 38)) := (Below.refl _ _).alloc (Nat.le_refl _) _
  exact ⟨DB.new w3 z _ _, h.1.keep ba, fun y hy => Nat.le_trans hs (h.2.1 y hy), (hb.trans (h.2.2.mono hs)).trans (ba.mono (Nat.le_trans hs h3)), Nat.le_trans hs h3, fun hp y hy => by have := opsOld h.1 hp y hy; omega⟩
/-- First the box. -/
theorem MidD.b (o : Obj) (ho : o = .cells #[.int .u8 0, .slice none 0 0, .slice none 0 0] 38 (0, 0)) (hW : (wr.alloc o).drew = W) (h : OpsAt w3 ap n os ∧ (∀ a, ap = some a → W.heap.size ≤ a.block) ∧ Below W.heap.size W w3) (z : Int) :
    MidD wr wr.heap.size z ap n cp os (((w3.setCell ⟨wr.heap.size, 0, none⟩ (.int .u8 z)).setCell ⟨wr.heap.size, 1, none⟩ (.slice none 0 0)).setCell ⟨wr.heap.size, 2, none⟩ (.slice ap n cp)) := by
  subst ho
  have sz : W.heap.size = wr.heap.size + 1 := by rw [← hW]; show (wr.alloc _).heap.size = _; simp
  have hb : Below wr.heap.size wr W := by rw [← hW]; exact ((Below.refl _ _).alloc (Nat.le_refl _) _).drew
  have h0 : DB w3 wr.heap.size 0 (.slice none 0 0) (.slice none 0 0) := (show DB W wr.heap.size 0 (.slice none 0 0) (.slice none 0 0) from by rw [← hW]; exact DB.new wr 0 _ _).keep h.2.2
  have hw : Wrote (fun g => g = wr.heap.size) w3 (((w3.setCell ⟨wr.heap.size, 0, none⟩ (.int .u8 z)).setCell ⟨wr.heap.size, 1, none⟩ (.slice none 0 0)).setCell ⟨wr.heap.size, 2, none⟩ (.slice ap n cp)) :=
    ((wrote1 w3 wr.heap.size 0 (.int .u8 z)).setCell (q := ⟨wr.heap.size, 1, none⟩) (.inr rfl) (.slice none 0 0)).setCell (q := ⟨wr.heap.size, 2, none⟩) (.inr rfl) (.slice ap n cp)
  have hn : 0 < n → Off (fun g => g = wr.heap.size) ap := fun _ a ha e => by have := h.2.1 a ha; omega
  refine ⟨?_, ops_kept h.1 hn hw, fun y hy => by have := h.2.1 y hy; omega, ?_, Nat.le_refl _, fun _ y hy e => by have := h.2.1 y hy; omega⟩
  · unfold DB at h0 ⊢
    rw [heap_setCell_same _ _ 2 _ _ _ (heap_setCell_same _ _ 1 _ _ _ (heap_setCell_same w3 _ 0 _ _ _ h0))]
    rfl
  · have h3 := h.2.2.size
    exact (hb.trans (h.2.2.mono hb.size)).trans (hw.below (by omega) (fun g hg => by omega))
end

/-- Behind the append of its bits. -/
structure EndD (wr : World) (g : Nat) (z : Int) (al : Option Addr) (c1 : Nat) (ap : Option Addr) (n cp : Nat) (os : List (Int × Int)) (W : World) : Prop where
  db : DB W g z (.slice al 1 c1) (.slice ap n cp)
  bits : Reads .u8 W al 1 [z]
  ops : OpsAt W ap n os
  nb : ∀ y, al = some y → wr.heap.size ≤ y.block
  na : ∀ y, ap = some y → wr.heap.size ≤ y.block
  be : Below wr.heap.size wr W

theorem byte_cells (w : World) (z : Int) (t : TypeId) : ∀ j u, ([.int .u8 z] : List Value)[j]? = some u → (w.alloc (.cells #[.int .u8 z] t)).drew.cell? ((⟨w.heap.size, 0, none⟩ : Addr).add j) = some u := by
  intro j u hu
  match j with
  | 0 =>
    simp at hu
    subst hu
    show (w.alloc (.cells #[.int .u8 z] t)).cell? _ = _
    go_simp
  | j + 1 => simp at hu
theorem byte_one (z : Int) : ∀ u ∈ ([.int .u8 z] : List Value), u.oneCell' = true := by
  intro u hu
  simp at hu
  subst hu
  rfl

theorem MidD.row {wr wc w4 : World} {g : Nat} {z : Int} {ap : Option Addr} {n cp : Nat} {os : List (Int × Int)} {v' : Value} (h : MidD wr g z ap n cp os wc) (o : Obj) (q : w4.ownsRow wc.heap.size 5 1 v' (0 + 1) ([] ++ [.int .u8 z])) (hg : ((wc.alloc o).drew).grownBy w4 (Value.ownBlock (.slice none 0 0))) :
    ∃ al c1, v' = .slice al 1 c1 ∧ w4.cell? ⟨g, 1, none⟩ = some (.slice none 0 0) ∧ w4.frozen? ⟨g, 1, none⟩ = false ∧ EndD wr g z al c1 ap n cp os (w4.setCell ⟨g, 1, none⟩ v') := by
  have hb : Below wc.heap.size wc w4 := (((Below.refl wc.heap.size wc).alloc (Nat.le_refl _) o).drew).grown hg (by show wc.heap.size ≤ (wc.alloc o).heap.size; simp) (fun k e => by simp [Value.ownBlock] at e)
  obtain ⟨al, c1, rfl, r, _, hal⟩ := reads_own (k := .u8) (zs := [z]) q
  have h4 := h.db.keep hb
  have hw : Wrote (fun x => x = g) w4 (w4.setCell ⟨g, 1, none⟩ (.slice al 1 c1)) := wrote1 w4 g 1 _
  have hgl := h.db.lt
  have hs := h.be.size
  have hs4 := hb.size
  refine ⟨al, c1, rfl, h4.c1, h4.f 1, h4.set _, reads_offIf r (fun _ a ha e => by have := hal a ha; omega) hw, ops_kept (h.ops.keep hb) (fun hp a ha e => ?_) hw, fun y hy => Nat.le_trans hs (hal y hy), h.new, ((h.be.trans (hb.mono hs)).trans (hw.below (Nat.le_trans hs hs4) (fun x hx => by have := h.hg; omega)))⟩
  exact h.ne hp a ha e

theorem newDeed (w : World) (a : Int) (vo ho : Option Addr) (n cv m ch : Nat) (vs : List Int) (hs : List (Int × Int)) : ∀ j u, (Deed12.cells ⟨a, vo, n, cv, vs, ho, m, ch, hs⟩)[j]? = some u → (w.alloc (.cells #[.int .u8 a, .slice vo n cv, .slice ho m ch] 38)).cell? ((⟨w.heap.size, 0, none⟩ : Addr).add j) = some u := by
  intro j u hu
  rcases j with _ | _ | _ | j <;> simp [Deed12.cells] at hu <;> subst hu <;> simp [Addr.add]
theorem deedOne (x : Deed12) : ∀ u ∈ x.cells, u.oneCell' = true := by
  intro u hu
  simp only [Deed12.cells, List.mem_cons, List.not_mem_nil, or_false] at hu
  rcases hu with rfl | rfl | rfl <;> rfl

/-- A deed's lists are new. -/
def NewD (w : World) (x : Deed12) : Prop := (∀ y, x.bo = some y → w.heap.size ≤ y.block) ∧ ∀ y, x.ao = some y → w.heap.size ≤ y.block
/-- What Deeds makes. -/
def DeedsNew (w : World) (e : Ending) (w' : World) : Prop := ∃ ao cap ds, e = .returned (.slice ao ds.length cap) ∧ DeedsAt w' ao ds.length ds ∧ (∀ x ∈ ds, x.fine w') ∧ ds.length ≤ 20 ∧ Below w.heap.size w w' ∧ (∀ y, ao = some y → w.heap.size ≤ y.block) ∧ ∀ x ∈ ds, NewD w x

theorem OwnDeeds.done {w W : World} {v : Value} {ds : List Deed12} (h : OwnDeeds w v ds W) (hl : ds.length ≤ 20) (hn : ∀ x ∈ ds, NewD w x) : DeedsNew w (.returned v) W := by
  obtain ⟨ao, cap, rfl, hA⟩ := h.deeds
  exact ⟨ao, cap, ds, rfl, hA, h.fine, hl, h.be, fun y hy => by subst hy; exact (h.row.lt y.block rfl).1, hn⟩

set_option maxRecDepth 100000 in
set_option maxHeartbeats 16000000 in
theorem deedsAny (w : World) (al : Option Addr) (nl cl : Nat) (xs : List Int) (hx : ArgBytes w al nl cl xs) (hnl : nl ≤ 1000) :
    Calls Tryz.prog 12 #[.slice al nl cl] w (DeedsNew w) := by
  obtain ⟨i0, hi, hz0, hz1, hz2⟩ := info_parts infoDeed
  obtain ⟨j0, hj, hy0, hy1, hy2⟩ := info_parts infoU8
  have HX := Lib.hid hx
  clear hx
  go_enter Tryz.func12, Tryz.ntmps12
  go_wp2
  have HS := Lib.hid (show OwnDeeds w (.slice none 0 0) [] w from ⟨World.ownsRow_nil _ _ _ _, by simp, by simp, Below.refl _ _⟩)
  go_loopw [3, 4] (fun v i wr => ∃ (j : Nat) (ds : List Deed12), i = .int .i64 j ∧ j ≤ nl + 3 ∧ ds.length ≤ 20 ∧ OwnDeeds w v ds wr ∧ Hid (∀ x ∈ ds, NewD w x)) (fun _ i _ => nl + 3 - (intOf i).toNat)
  case atStart => exact ⟨0, [], rfl, by omega, by simp, HS.out, Lib.hid (fun x hx => by simp at hx)⟩
  case round =>
    obtain ⟨j, ds, rfl, hjn, hd20, hO, HND⟩ := hrel
    have HO := Lib.hid hO
    clear hO HS
    obtain ⟨a0, cp0, rfl⟩ := ownShape HO.out.row
    generalize hdn : ds.length = dn at *
    have HDn := Lib.hid hdn
    clear hdn
    by_cases hlt : j < nl
    · by_cases hd : dn < 20
      · obtain ⟨b, off, rfl, hbl, hc⟩ := HX.out.1.2 (by omega)
        have c0 := (HO.out.be.cell (p := ⟨b, off + j, none⟩) hbl).trans (hc j hlt)
        have hz := byte_at HX.out.2.2.2 j
        have HK := Lib.hid (show ∀ W, Below w.heap.size w W → W.cell? ⟨b, off + j, none⟩ = some (.int .u8 (xs.getD j 0)) from fun W hW => (hW.cell (p := ⟨b, off + j, none⟩) hbl).trans (hc j hlt))
        clear hc
        obtain ⟨z, hzz⟩ : ∃ z, xs.getD j 0 = z := ⟨_, rfl⟩
        rw [hzz] at c0 hz HK
        obtain ⟨q, hq⟩ : ∃ q : Nat, z % 9 = q := ⟨(z % 9).toNat, by omega⟩
        have hq8 : q ≤ 8 := by omega
        obtain ⟨r, hr⟩ : ∃ r : Nat, r = j + 1 + q := ⟨_, rfl⟩
        have HZ := Lib.hid hz
        have CL := Lib.hid (show nl ≤ cl from HX.out.2.1)
        have ezm : z.tmod 9 = (q : Int) := by rw [Int.tmod_eq_emod_of_nonneg hz.1]; exact hq
        have e1 : IntKind.u8.wrap (q : Int) = q := by rw [IntKind.wrap_u8]; omega
        have e2 : IntKind.i64.wrap (q : Int) = q := by rw [IntKind.wrap_i64]; omega
        have e3 : IntKind.i64.wrap ((j : Int) + 1) = (j : Int) + 1 := by rw [IntKind.wrap_i64]; omega
        have e4 : IntKind.i64.wrap ((j : Int) + 1 + q) = (r : Int) := by rw [IntKind.wrap_i64]; omega
        have jz0 : (0 : Int) ≤ (j : Int) := by omega
        have r0 : (0 : Int) ≤ (r : Int) := by omega
        have d1 : (j : Int) < nl := by omega
        have d2 : (dn : Int) < 20 := by omega
        have d3 : (j : Int) ≤ r := by omega
        have d4 : (j : Int) ≤ nl := by omega
        have d5 : (nl : Int) ≤ cl := by have := CL.out; omega
        have d7 : (j : Int) ≤ cl := by omega
        have d8 : ¬ cl = j := by omega
        have HJ := Lib.hid (And.intro hlt (And.intro hnl hd))
        have HRJ := Lib.hid (show j ≤ r by omega)
        have HM := Lib.hid (show nl ≤ r ∨ r < nl by omega)
        have HBL := Lib.hid hbl
        clear hq hr hzz hz hq8 hbl
        go_upto_region 5 with (fail)
        go_cut [5] from 17 to 37 (fun d wx => ∃ (g cp n : Nat) (ap : Option Addr) (os : List (Int × Int)), d = .pointer (some ⟨g, 0, none⟩) ∧ Hid (MidD wr g z ap n cp os wx ∧ (∀ o ∈ os, OpOk o) ∧ n ≤ 80))
        case first =>
          rcases HM.out with hm | hm
          · have HC := Lib.hid (fun W (hb : Below wr.heap.size wr W) => opsAny W (some ⟨b, off + j, none⟩) (nl - j) (cl - j) ((xs.drop j).take (nl - j)) 5 (((((HX.out.1.keep HO.out.be).from HJ.out.1).keep hb)).upto (by have := HRJ.out; have := HJ.out; omega)) (fun y hy => HX.out.2.2.2 y (List.mem_of_mem_drop (List.mem_of_mem_take hy))) (by have := HRJ.out; have := HJ.out; omega) (by decide) (by decide))
            have HOK := Lib.hid (opsL_ok 5 ((xs.drop j).take (nl - j)) (fun y hy => HX.out.2.2.2 y (List.mem_of_mem_drop (List.mem_of_mem_take hy))) (by decide) (by decide))
            have HOL := Lib.hid (opsL_len 5 ((xs.drop j).take (nl - j)))
            have d6 : (nl : Int) ≤ r := by omega
            have n1 : ¬ r < nl := by omega
            have n2 : nl ≤ cl := CL.out
            have n3 : j ≤ nl := by omega
            clear hm
            generalize opsL 5 ((xs.drop j).take (nl - j)) = os at *
            have hne : b ≠ wr.heap.size := by have := HO.out.be.size; have := HBL.out; omega
            have hbd : Below wr.heap.size wr wr.drew := (Below.refl _ _).drew
            have hba : ∀ o, Below wr.heap.size wr (wr.alloc o).drew := fun o => ((Below.refl _ _).alloc (Nat.le_refl _) o).drew
            go_wp2
            go_region_held3 (fun w' => w'.cell? ⟨b, off + j, none⟩ = some (.int .u8 z)) (first | exact c0 | exact cellNew c0 _ | exact x1 | exact cellNew x1 _ | exact cellOther _ hne (cellOther _ hne (cellOther _ hne x1))) ((go_at_call 21; first | (refine (HC.out _ hbd).mono ?_; rintro e w3 hp; obtain ⟨ap, cp, rfl, hp⟩ := hp; have HP := Lib.hid (MidD.a (z := z) (cp := cp) hbd hp); have x1 := HK.out w3 (HO.out.be.trans ((hbd.trans (hp.2.2.mono hbd.size)).mono HO.out.be.size)); clear hp) | (refine (HC.out _ (hba _)).mono ?_; rintro e w3 hp; obtain ⟨ap, cp, rfl, hp⟩ := hp; have HP := Lib.hid (MidD.b (z := z) (cp := cp) _ rfl rfl hp); have x1 := HK.out w3 (HO.out.be.trans (((hba _).trans (hp.2.2.mono (hba _).size)).mono HO.out.be.size)); obtain ⟨y0, y1, y2, y3, y4, y5⟩ := DB.four _ rfl rfl hp.2.2; clear hp)))
            all_goals
              go_wp2
              go_meet
              exact ⟨_, _, _, _, _, rfl, Lib.hid ⟨HP.out, HOK.out, HOL.out⟩⟩
          · have HC := Lib.hid (fun W (hb : Below wr.heap.size wr W) => opsAny W (some ⟨b, off + j, none⟩) (r - j) (cl - j) ((xs.drop j).take (r - j)) 5 (((((HX.out.1.keep HO.out.be).from HJ.out.1).keep hb)).upto (by have := HRJ.out; have := HJ.out; omega)) (fun y hy => HX.out.2.2.2 y (List.mem_of_mem_drop (List.mem_of_mem_take hy))) (by have := HRJ.out; have := HJ.out; omega) (by decide) (by decide))
            have HOK := Lib.hid (opsL_ok 5 ((xs.drop j).take (r - j)) (fun y hy => HX.out.2.2.2 y (List.mem_of_mem_drop (List.mem_of_mem_take hy))) (by decide) (by decide))
            have HOL := Lib.hid (opsL_len 5 ((xs.drop j).take (r - j)))
            have d6 : (r : Int) < nl := by omega
            have d9 : (r : Int) ≤ cl := by omega
            have n2 : r ≤ cl := by omega
            have n3 : j ≤ r := by omega
            clear hm
            generalize opsL 5 ((xs.drop j).take (r - j)) = os at *
            have hne : b ≠ wr.heap.size := by have := HO.out.be.size; have := HBL.out; omega
            have hbd : Below wr.heap.size wr wr.drew := (Below.refl _ _).drew
            have hba : ∀ o, Below wr.heap.size wr (wr.alloc o).drew := fun o => ((Below.refl _ _).alloc (Nat.le_refl _) o).drew
            go_wp2
            go_region_held3 (fun w' => w'.cell? ⟨b, off + j, none⟩ = some (.int .u8 z)) (first | exact c0 | exact cellNew c0 _ | exact x1 | exact cellNew x1 _ | exact cellOther _ hne (cellOther _ hne (cellOther _ hne x1))) ((go_at_call 21; first | (refine (HC.out _ hbd).mono ?_; rintro e w3 hp; obtain ⟨ap, cp, rfl, hp⟩ := hp; have HP := Lib.hid (MidD.a (z := z) (cp := cp) hbd hp); have x1 := HK.out w3 (HO.out.be.trans ((hbd.trans (hp.2.2.mono hbd.size)).mono HO.out.be.size)); clear hp) | (refine (HC.out _ (hba _)).mono ?_; rintro e w3 hp; obtain ⟨ap, cp, rfl, hp⟩ := hp; have HP := Lib.hid (MidD.b (z := z) (cp := cp) _ rfl rfl hp); have x1 := HK.out w3 (HO.out.be.trans (((hba _).trans (hp.2.2.mono (hba _).size)).mono HO.out.be.size)); obtain ⟨y0, y1, y2, y3, y4, y5⟩ := DB.four _ rfl rfl hp.2.2; clear hp)))
            all_goals
              go_wp2
              go_meet
              exact ⟨_, _, _, _, _, rfl, Lib.hid ⟨HP.out, HOK.out, HOL.out⟩⟩
        case' rest => skip
        obtain ⟨g, cp, n, ap, os, rfl, HMID⟩ := hcut
        have HW := Lib.hid HMID.out.1.be
        have hO := HO.out.fresh HMID.out.1.be
        have x0 := HK.out wc hO.be
        have g1 := HMID.out.1.db.c1
        have gl := HMID.out.1.db.lt
        have bl : b < wc.heap.size := by have := HBL.out; have := hO.be.size; omega
        have HOC := Lib.hid hO
        have jz : (0 : Int) ≤ (j : Int) := by omega
        have d1 : (j : Int) < nl := by have := HJ.out; omega
        clear hO c0 ezm e1 e2 e3 e4 jz0 r0 d3 d4 d5 d7 d8
        have hle : ∀ o, wc.heap.size ≤ (wc.alloc o).drew.heap.size := fun o => by show wc.heap.size ≤ (wc.alloc o).heap.size; simp
        go_upto_region 6 with (fail)
        go_cut [5] from 38 to 46 (fun d wx => ∃ (al : Option Addr) (c1 : Nat), d = .pointer (some ⟨g, 0, none⟩) ∧ Hid (EndD wr g z al c1 ap n cp os wx))
        case first =>
          go_wp2
          go_region_law (refine step_append_later _ rfl _ _ 23 rfl wc.heap.size 5 j0 _ 1 1 Tryz.underlying23 hj hy0 hy1 hy2 rfl (by decide) _ 0 _ rfl (World.ownsRow_nil _ _ _ _) ⟨_, 0, none⟩ 1 1 [.int .u8 z] rfl rfl (byte_cells _ _ _) (byte_one _) (by decide) (by decide) (hle _) ?_; intro v' w4 hown' hgrow' _; obtain ⟨al, c1, hv, k1, k2, k3⟩ := HMID.out.1.row _ hown' hgrow'; subst hv; have HE := Lib.hid k3; clear hown' hgrow' k3)
          all_goals
            go_wp2
            go_meet
            exact ⟨_, _, rfl, HE⟩
        case' rest => skip
        obtain ⟨al, c1, rfl, HE⟩ := hcut
        have hO := HO.out.fresh HE.out.be
        have hrow := hO.row
        rw [HDn.out] at hrow
        have HRow := Lib.hid hrow
        have HOO := Lib.hid hO
        have p0 := HE.out.db.c0
        have p1 := HE.out.db.c1
        have p2 := HE.out.db.c2
        have HLT := Lib.hid (fun g (e : Value.ownBlock (.slice a0 dn cp0) = some g) => (HO.out.row.lt g e).2)
        have HSZ := Lib.hid (show w.heap.size ≤ wc.heap.size from hO.be.size)
        have HMore := Lib.hid (fun (v' : Value) (w5 : World) (o : Obj) (q : w5.ownsRow w.heap.size 38 3 v' (dn + 1) (flatD ds ++ Deed12.cells ⟨z, al, 1, c1, [z], ap, n, cp, os⟩)) (gr : (wc.alloc o).grownBy w5 (Value.ownBlock (.slice a0 dn cp0))) (hl : ∀ g, v'.ownBlock = some g → Value.ownBlock (.slice a0 dn cp0) = some g ∨ (wc.alloc o).heap.size ≤ g) =>
          show OwnDeeds w v' (ds ++ [⟨z, al, 1, c1, [z], ap, n, cp, os⟩]) w5 from by
            rw [← HDn.out] at q
            exact HOO.out.more ⟨HZ.out, HE.out.bits, fun y hy => by simp only [List.mem_cons, List.not_mem_nil, or_false] at hy; subst hy; exact HZ.out, HE.out.ops, HMID.out.2.1, (show (1 : Nat) ≤ 1000 by decide), Nat.le_trans HMID.out.2.2 (by decide)⟩ ⟨fun _ a ha e => by have h1 := HE.out.nb a ha; have h2 := HLT.out _ e; omega, fun _ a ha e => by have h1 := HE.out.na a ha; have h2 := HLT.out _ e; omega⟩ q gr hl)
        have jz1 : j ≤ 1000 := by have := HJ.out; omega
        have dn20 : dn < 20 := HJ.out.2.2
        clear hO hrow
        go_wp2_with (at_builtin; refine wpList_append_later rfl (.tmp 47) (.tmp 49) 22 rfl w.heap.size 38 i0 _ 3 56 Tryz.underlying22 hi hz0 hz1 hz2 rfl (by decide) _ dn _ rfl (HRow.out.alloc _) ⟨_, 0, none⟩ 1 1 (Deed12.cells ⟨z, al, 1, c1, [z], ap, n, cp, os⟩) rfl rfl (newDeed _ _ _ _ _ _ _ _ _ _) (deedOne _) (by simp only [maxLen]; omega) (by omega) (Nat.le_trans HSZ.out (by simp)) ?_; intro v2 w2 q2 g2 l2; have HN := Lib.hid (HMore.out _ _ _ q2 g2 l2); clear q2 g2 l2)
        go_roundw
        case rel => exact ⟨j + 3, _, by go_num, by have := HJ.out; omega, by rw [List.length_append, HDn.out]; show dn + 1 ≤ 20; omega, HN.out, Lib.hid (fun x hx => by
          rcases List.mem_append.1 hx with hx | hx
          · exact HND.out x hx
          · simp only [List.mem_cons, List.not_mem_nil, or_false] at hx
            subst hx
            exact ⟨fun y hy => Nat.le_trans HO.out.be.size (HE.out.nb y hy), fun y hy => Nat.le_trans HO.out.be.size (HE.out.na y hy)⟩)⟩
        case measure => simp [intOf]; omega
      · have d1 : (j : Int) < nl := by omega
        have d2 : ¬ (dn : Int) < 20 := by omega
        have HF := Lib.hid (HO.out.done (by rw [HDn.out]; exact hd20) HND.out)
        clear HO
        go_wp2
        go_ret
        exact HF.out
    · have d1 : ¬ (j : Int) < nl := by omega
      have HF := Lib.hid (HO.out.done (by rw [HDn.out]; exact hd20) HND.out)
      clear HO
      go_wp2
      go_ret
      exact HF.out

end Go.Proofs.YtniefplgijpckaaGreat
