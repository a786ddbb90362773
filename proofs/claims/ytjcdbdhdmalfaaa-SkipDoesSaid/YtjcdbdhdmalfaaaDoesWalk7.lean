/-
  The walk of SkipDoes: for all numbers and lists it answers true and leaves all old memory as it was.
-/
import Derived.Test.YtjcdbdhdmalfaaaDoes7
import Derived.Deep.RegionHeldLaw
namespace Go.Proofs.Ytjcdbdhdmalfaaa
open Go.RowKit

/-- append on a row of one's own, as one step of a region that draws its order: the row behind it is the same one, or a new one. -/
theorem step_append_later {P : Program} (w : World) {ops : Array Oper} {o : Oper} {a : Act} {K : Act → World → Prop} {Q : Exit → Act → World → Prop} {E : Prop}
    (hg : o.guard = none) (s x : Operand) (t : TypeId) (hop : o.op = Op.call { callee := Callee.builtin Builtin.append, args := #[s, x], argTypes := #[t, t] })
    (base : Nat) (e : TypeId) (i : TypeInfo) (z : Value) (size bytes : Nat) (h1 : P.underlying t = some (.slice e)) (h2 : P.info? e = some i) (h3 : i.zero = some z) (h4 : i.size = size) (h5 : i.bytes = bytes) (h6 : z.cells.size = size) (h7 : 0 < size)
    (v : Value) (k : Nat) (xs : List Value) (hs : a.eval s = v) (hown : w.ownsRow base e size v k xs) (ad : Addr) (m c : Nat) (news : List Value) (hx : a.eval x = .slice (some ad) m c) (hn : news.length = m * size)
    (hc : ∀ j u, news[j]? = some u → w.cell? (ad.add j) = some u) (h1c : ∀ u ∈ news, u.oneCell' = true) (b1 : k + m ≤ maxLen) (b2 : (k + m) * bytes ≤ 140737488355328) (b3 : base ≤ w.heap.size)
    (hK : ∀ v' w', w'.ownsRow base e size v' (k + m) (xs ++ news) → w.grownBy w' v.ownBlock → (∀ g, v'.ownBlock = some g → v.ownBlock = some g ∨ w.heap.size ≤ g) → K (a.put o.dst v') w') :
    if Region.wanted o (yielded ops a.tmps) = true then Oper.wp P o a w K Q else E := by
  have hw : Region.wanted o (yielded ops a.tmps) = true := by simp [Region.wanted, hg]
  rw [if_pos hw]
  obtain ⟨v', w', hr, q2, q3, q4⟩ := run_append_later (P := P) w base t o.type e i z size bytes h1 h2 h3 h4 h5 h6 h7 v k xs hown ad m c news hn hc h1c b1 b2 b3
  unfold Oper.wp
  simp [execOp, hop, resolve, invoke, builtin, hs, hx, hr, Result.andThen]
  exact hK v' w' q2 q3 q4

theorem infoDeed : (Try.prog.info? 31).map (fun i => (i.zero, i.size, i.bytes)) = some (some (.agg #[.int .u8 0, .int .i32 0, .int .i64 0, .slice none 0 0, .slice none 0 0]), 5, 64) := by kernel_rfl

/-- The cells of a list of deeds. -/
def flatD (l : List Deed7) : List Value := l.flatMap Deed7.cells
theorem flatD_append (a b : List Deed7) : flatD (a ++ b) = flatD a ++ flatD b := by simp [flatD]
theorem flatD_cons (x : Deed7) (l : List Deed7) : flatD (x :: l) = x.cells ++ flatD l := by simp [flatD]
theorem flatD_length : ∀ l : List Deed7, (flatD l).length = l.length * 5
  | [] => rfl
  | x :: l => by rw [flatD_cons, List.length_append, flatD_length l, List.length_cons, show x.cells.length = 5 from rfl]; omega
theorem flatD_at : ∀ (l : List Deed7) (i j : Nat) (u : Value), i < l.length → (l.getD i Deed7.no).cells[j]? = some u → (flatD l)[i * 5 + j]? = some u
  | x :: l, 0, j, u, _, h => by
    rw [flatD_cons, Nat.zero_mul, Nat.zero_add]
    have hj : j < x.cells.length := by
      rcases Nat.lt_or_ge j x.cells.length with h1 | h1
      · exact h1
      · simp [h1] at h
    rw [List.getElem?_append_left hj]
    exact h
  | x :: l, i + 1, j, u, hi, h => by
    rw [flatD_cons, List.getElem?_append_right (by rw [show x.cells.length = 5 from rfl]; omega), show x.cells.length = 5 from rfl, show (i + 1) * 5 + j - 5 = i * 5 + j by omega]
    exact flatD_at l i j u (by simpa using hi) (by simpa using h)

theorem Deed7.fine.keep {W W' : World} {x : Deed7} (h : x.fine W) (hb : Below W.heap.size W W') : x.fine W' := ⟨h.k, h.vs.keep hb, h.cv, h.hs.keep hb, h.n, h.m⟩
theorem Deed7.fine.off {W W' : World} {x : Deed7} {F : Nat → Prop} (h : x.fine W) (ho : (0 < x.n → Off F x.vo) ∧ (0 < x.m → Off F x.ho)) (hb : Wrote F W W') : x.fine W' := ⟨h.k, h.vs.offIf ho.1 hb, h.cv, h.hs.offIf ho.2 hb, h.n, h.m⟩

/-- Deeds of one's own, in a row that grows. -/
structure OwnDeeds (w : World) (v : Value) (ds : List Deed7) (W : World) : Prop where
  row : W.ownsRow w.heap.size 31 5 v ds.length (flatD ds)
  fine : ∀ x ∈ ds, x.fine W
  off : ∀ x ∈ ds, (0 < x.n → Off (fun b => v.ownBlock = some b) x.vo) ∧ (0 < x.m → Off (fun b => v.ownBlock = some b) x.ho)
  be : Below w.heap.size w W

theorem ownBelow {w w' : World} {base size n : Nat} {e : TypeId} {v : Value} {xs : List Value} (h : w.ownsRow base e size v n xs) (hb : Below w.heap.size w w') : w'.ownsRow base e size v n xs :=
  own_keep h fun g e => hb.block g (h.lt g e).2

theorem OwnDeeds.fresh {w W W' : World} {v : Value} {ds : List Deed7} (h : OwnDeeds w v ds W) (hb : Below W.heap.size W W') : OwnDeeds w v ds W' :=
  ⟨ownBelow h.row hb, fun x hx => (h.fine x hx).keep hb, h.off, h.be.trans (hb.mono h.be.size)⟩

theorem OwnDeeds.more {w W w4 : World} {v v' : Value} {ds : List Deed7} {x : Deed7} {o : Obj} (h : OwnDeeds w v ds W) (hx : x.fine W) (ho : (0 < x.n → Off (fun b => v.ownBlock = some b) x.vo) ∧ (0 < x.m → Off (fun b => v.ownBlock = some b) x.ho))
    (q : w4.ownsRow w.heap.size 31 5 v' (ds.length + 1) (flatD ds ++ x.cells)) (g : (W.alloc o).grownBy w4 v.ownBlock) (hl : ∀ b, v'.ownBlock = some b → v.ownBlock = some b ∨ (W.alloc o).heap.size ≤ b) : OwnDeeds w v' (ds ++ [x]) w4 := by
  have hw : Wrote (fun b => v.ownBlock = some b) W w4 := ((Wrote.refl (fun b => v.ownBlock = some b) W).alloc o).grown g (fun b e => .inl e)
  have hall : ∀ y ∈ ds ++ [x], y.fine W ∧ (0 < y.n → Off (fun b => v.ownBlock = some b) y.vo) ∧ (0 < y.m → Off (fun b => v.ownBlock = some b) y.ho) := fun y hy => by
    rcases List.mem_append.1 hy with hy | hy
    · exact ⟨h.fine y hy, h.off y hy⟩
    · simp only [List.mem_cons, List.not_mem_nil, or_false] at hy
      subst hy
      exact ⟨hx, ho⟩
  have hs : (W.alloc o).heap.size = W.heap.size + 1 := by simp
  refine ⟨by rw [flatD_append, List.length_append]; simpa [flatD] using q, fun y hy => (hall y hy).1.off (hall y hy).2 hw, fun y hy => ⟨fun hp a e hb => ?_, fun hp a e hb => ?_⟩, (h.be.alloc h.be.size o).grown g (by rw [hs]; have := h.be.size; omega) (fun b e => (h.row.lt b e).1)⟩
  · rcases hl _ hb with h1 | h1
    · exact (hall y hy).2.1 hp a e h1
    · have := (hall y hy).1.vs.lt hp a e
      omega
  · rcases hl _ hb with h1 | h1
    · exact (hall y hy).2.2 hp a e h1
    · have := (hall y hy).1.hs.lt hp a e
      omega

theorem OwnDeeds.deeds {w W : World} {v : Value} {ds : List Deed7} (h : OwnDeeds w v ds W) : ∃ ao cap, v = .slice ao ds.length cap ∧ DeedsAt W ao ds.length ds := by
  have hcs := fun g hg => h.row.cells (g := g) hg
  have hl : ∀ n, n = ds.length → W.ownsRow w.heap.size 31 5 v n (flatD ds) → ∃ ao cap, v = .slice ao n cap ∧ DeedsAt W ao n ds := fun n hn hr => by
    rcases hr.2 with ⟨rfl, rfl⟩ | ⟨g, cap, cur, rfl, hb, hg, hle, _⟩
    · exact ⟨_, _, rfl, hn.symm, fun hp => by omega⟩
    · refine ⟨_, _, rfl, hn.symm, fun hp => ⟨g, 0, rfl, lt_of_block hg, fun i hi j u hu => ?_⟩⟩
      have := hcs g rfl _ u (flatD_at ds i j u (by omega) hu)
      rw [Nat.add_assoc]
      simpa [Addr.add_lit] using this
  exact hl _ rfl h.row

theorem ownedDeeds {w W : World} {a0 : Option Addr} {dn cp0 : Nat} {ds : List Deed7} (h : OwnDeeds w (.slice a0 dn cp0) ds W) (hd : ds.length = dn) : DeedsAt W a0 dn ds := by
  obtain ⟨ao, cap, e, hA⟩ := h.deeds
  rw [hd] at hA
  injection e with e
  subst e
  exact hA

theorem newDeed (w : World) (a b c : Int) (vo ho : Option Addr) (n cv m ch : Nat) (vs hs : List Int) : ∀ j u, (Deed7.cells ⟨a, b, c, vo, n, cv, vs, ho, m, ch, hs⟩)[j]? = some u → (w.alloc (.cells #[.int .u8 a, .int .i32 b, .int .i64 c, .slice vo n cv, .slice ho m ch] 31)).cell? ((⟨w.heap.size, 0, none⟩ : Addr).add j) = some u := by
  intro j u hu
  rcases j with _ | _ | _ | _ | _ | j <;> simp [Deed7.cells] at hu <;> subst hu <;> simp [Addr.add]
theorem deedOne (x : Deed7) : ∀ u ∈ x.cells, u.oneCell' = true := by
  intro u hu
  simp only [Deed7.cells, List.mem_cons, List.not_mem_nil, or_false] at hu
  rcases hu with rfl | rfl | rfl | rfl | rfl <;> rfl

theorem Reads.from {k : IntKind} {w : World} {b off n j : Nat} {zs : List Int} (h : Reads k w (some ⟨b, off, none⟩) n zs) (hj : j < n) : Reads k w (some ⟨b, off + j, none⟩) (n - j) (zs.drop j) := by
  obtain ⟨b', off', e, hb, hc⟩ := h.2 (by omega)
  simp only [Option.some.injEq, Addr.mk.injEq, and_true] at e
  obtain ⟨rfl, rfl⟩ := e
  refine ⟨by rw [List.length_drop, h.1], fun _ => ⟨b, off + j, rfl, hb, fun i hi => ?_⟩⟩
  rw [Nat.add_assoc, hc (j + i) (by omega)]
  simp [List.getD]
theorem Reads.upto {k : IntKind} {w : World} {ao : Option Addr} {n r : Nat} {zs : List Int} (h : Reads k w ao n zs) (hr : r ≤ n) : Reads k w ao r (zs.take r) := by
  refine ⟨by rw [List.length_take, h.1, Nat.min_eq_left hr], fun hp => ?_⟩
  obtain ⟨b, off, e, hb, hc⟩ := h.2 (by omega)
  refine ⟨b, off, e, hb, fun i hi => ?_⟩
  rw [hc i (by omega)]
  simp [List.getD, hi]

set_option maxRecDepth 100000 in
set_option maxHeartbeats 4000000 in
theorem doesWalk {w : World} (most : Int) (kk : Int) (ao : Option Addr) (len cap : Nat) (xs : List Deed7) (bo : Option Addr) (lb cb : Nat) (ys : List Int) (_ : -9223372036854775808 ≤ most) (_ : most ≤ 9223372036854775807) (kk0 : 0 ≤ kk) (kk1 : kk ≤ 255) (hx : ArgDeeds w ao len cap xs) (hlen : len ≤ 140737488351232) (hy : ArgBytes w bo lb cb ys) (hlb : lb ≤ 140737488351232) :
    Calls Try.prog 3 #[.int .i64 most, .int .u8 kk, .slice ao len cap, .slice bo lb cb] w fun e w' => e = .returned (.bool true) ∧ Below w.heap.size w w' := by
  obtain ⟨hd, _, _, hg⟩ := hx
  obtain ⟨hr, hlc, _, hz⟩ := hy
  have HX := Lib.hid (And.intro hd hg)
  have HY := Lib.hid (And.intro hr hz)
  obtain ⟨i0, hi, hz0, hz1, hz2⟩ := info_parts infoDeed
  have C := heavyAny w ao len cap xs hd (fun x h => ⟨(hg x h).2.1.2, (hg x h).2.2.2⟩) hlen
  clear hd hg hr hz
  go_enter Try.func3, Try.ntmps3
  go_wp2_with fail
  refine C.mono ?_
  clear C
  rintro e w1 ⟨T, rfl, bl1, hT⟩
  have HB1 := Lib.hid bl1
  have HT := Lib.hid hT
  clear bl1 hT
  by_cases hT5 : 500 < T
  · have t1 : (500 : Int) < T := by omega
    go_wp2_with fail
    refine (known _).mono ?_
    rintro e w2 ⟨rfl, bl2⟩
    have HB2 := Lib.hid (HB1.out.trans (bl2.mono HB1.out.size))
    clear bl2
    go_wp2
    go_ret
    exact ⟨rfl, HB2.out⟩
  have t1 : ¬ (500 : Int) < T := by omega
  by_cases hL3 : 30 < len
  · have t2 : (30 : Int) < len := by omega
    go_wp2_with fail
    refine (known _).mono ?_
    rintro e w2 ⟨rfl, bl2⟩
    have HB2 := Lib.hid (HB1.out.trans (bl2.mono HB1.out.size))
    clear bl2
    go_wp2
    go_ret
    exact ⟨rfl, HB2.out⟩
  have t2 : ¬ (30 : Int) < len := by omega
  by_cases hC2 : 200 < lb
  · have t3 : (200 : Int) < lb := by omega
    go_wp2_with fail
    refine (known _).mono ?_
    rintro e w2 ⟨rfl, bl2⟩
    have HB2 := Lib.hid (HB1.out.trans (bl2.mono HB1.out.size))
    clear bl2
    go_wp2
    go_ret
    exact ⟨rfl, HB2.out⟩
  have t3 : ¬ (200 : Int) < lb := by omega
  have HFine := Lib.hid (show ∀ x ∈ xs, x.fine w from fun x h => by
    have h1 := sumN_all xs x h
    have h2 := HT.out (by omega)
    obtain ⟨g1, ⟨⟨g2, g3, _, _⟩, _⟩, ⟨g4, _, _⟩, _⟩ := HX.out.2 x h
    exact ⟨g1, g2, g3, g4, by omega, by omega⟩)
  have HDA := Lib.hid HX.out.1
  clear HT HX
  go_wp2_with fail
  refine (known _).mono ?_
  rintro e w2 ⟨rfl, bl2⟩
  have HO2 := Lib.hid (show OwnDeeds w (.slice none 0 0) [] w2 from ⟨World.ownsRow_nil _ _ _ _, by simp, by simp, HB1.out.trans (bl2.mono HB1.out.size)⟩)
  clear bl2 HB1
  go_wp2
  clear t1 t2 t3 hT5
  go_loopw [9, 10] (fun v i wr => ∃ (j q : Nat) (ds : List Deed7), j = 2 * q ∧ q ≤ 30 ∧ ds.length = q ∧ i = .int .i64 j ∧ OwnDeeds w v ds wr) (fun _ i _ => 60 - (intOf i).toNat)
  case atStart => exact ⟨0, 0, [], rfl, by omega, rfl, rfl, HO2.out⟩
  case round =>
    obtain ⟨j, q, ds, hj, hq, hdl, rfl, hO⟩ := hrel
    have HO := Lib.hid hO
    clear hO HO2
    obtain ⟨a0, cp0, rfl⟩ := ownShape HO.out.row
    have HJ := Lib.hid (And.intro hj hdl)
    have j0 : (0 : Int) ≤ (j : Int) := by omega
    have j60 : j ≤ 60 := by omega
    clear hj hdl
    generalize hdn : ds.length = dn at *
    have HDn := Lib.hid hdn
    clear hdn
    have dn30 : dn ≤ 30 := by have := HJ.out.2; have := HDn.out; omega
    by_cases hlt : j + 1 < lb
    · by_cases hj60 : j < 60
      · obtain ⟨b, off, rfl, hbl, hc⟩ := HY.out.1.2 (by omega)
        have HC01 := Lib.hid (And.intro (hc j (by omega)) (hc (j + 1) hlt))
        have hz0r := HY.out.2 (ys.getD j 0) (by simp [List.getD, show j < ys.length by rw [HY.out.1.1]; omega])
        have hz1r := HY.out.2 (ys.getD (j + 1) 0) (by simp [List.getD, show j + 1 < ys.length by rw [HY.out.1.1]; exact hlt])
        obtain ⟨z00, z01⟩ := hz0r
        obtain ⟨z10, z11⟩ := hz1r
        have C := risingAny wr (some ⟨b, off + j, none⟩) (lb - j) (cb - j) (ys.drop j) ((HY.out.1.keep HO.out.be).from (by omega)) (fun z h => HY.out.2 z (List.mem_of_mem_drop h))
        clear hc
        generalize ys.getD j 0 = z0 at *
        generalize ys.getD (j + 1) 0 = z1 at *
        have d1 : (j : Int) + 1 < lb := by omega
        have d2 : (j : Int) ≤ cb := by omega
        have d3 : (j : Int) ≤ lb := by omega
        have d4 : ¬ cb = j := by omega
        have d5 : (lb : Int) ≤ cb := by omega
        go_wp2_with fail
        refine C.mono ?_
        clear C
        rintro e w3 ⟨va, nv, capv, ha, nh, caph, vs, hs, rfl, rv, rh, cv, ch, n20, n15, nv1, nh1, bl3⟩
        have HO3 := Lib.hid (HO.out.fresh bl3)
        have HNew := Lib.hid (And.intro rv (And.intro rh (And.intro cv (And.intro n20 (And.intro n15 (show (0 < nv → Off (fun g => Value.ownBlock (.slice a0 dn cp0) = some g) va) ∧ (0 < nh → Off (fun g => Value.ownBlock (.slice a0 dn cp0) = some g) ha) from ⟨fun _ a e g => by have h1 := nv1 a e; have h2 := (HO.out.row.lt _ g).2; omega, fun _ a e g => by have h1 := nh1 a e; have h2 := (HO.out.row.lt _ g).2; omega⟩))))))
        clear rv rh nv1 nh1 bl3 HO d2 d3 d4 d5
        have c0 := (HO3.out.be.cell (p := ⟨b, off + j, none⟩) hbl).trans HC01.out.1
        have c1 := (HO3.out.be.cell (p := ⟨b, off + (j + 1), none⟩) hbl).trans HC01.out.2
        obtain ⟨j1, hj1⟩ : ∃ j1, j1 = j + 1 := ⟨_, rfl⟩
        rw [← hj1] at c1
        have e1 : ((j : Int) + 1) = (j1 : Int) := by omega
        have e2 : IntKind.i64.wrap ((j : Int) + 1) = (j1 : Int) := by rw [IntKind.wrap_i64]; omega
        have j1l : (j1 : Int) < lb := by omega
        have j10 : (0 : Int) ≤ (j1 : Int) := by omega
        have jl : (j : Int) < lb := by omega
        have HK01 := Lib.hid (show ∀ W, Below w.heap.size w W → W.cell? ⟨b, off + j, none⟩ = some (.int .u8 z0) ∧ W.cell? ⟨b, off + j1, none⟩ = some (.int .u8 z1) from fun W hW => ⟨(hW.cell (p := ⟨b, off + j, none⟩) hbl).trans HC01.out.1, by rw [hj1]; exact (hW.cell (p := ⟨b, off + (j + 1), none⟩) hbl).trans HC01.out.2⟩)
        clear HC01 hj1 d1
        obtain ⟨r, hrr⟩ : ∃ r : Nat, r = z1.toNat % (nv + 1) := ⟨_, rfl⟩
        have hrn : r ≤ nv := by have := Nat.mod_lt z1.toNat (show 0 < nv + 1 by omega); omega
        have er1 : z1 % ((nv : Int) + 1) = (r : Int) := by
          rw [hrr, Int.natCast_emod, Int.toNat_of_nonneg z10]
          simp
        have er2 : Int.tmod z1 ((nv : Int) + 1) = (r : Int) := by rw [Int.tmod_eq_emod_of_nonneg z10, er1]
        have rc : (r : Int) ≤ capv := by omega
        have r0 : (0 : Int) ≤ (r : Int) := by omega
        have nv0 : ((nv : Int) + 1 == 0) = false := by simp; omega
        clear hrr
        have e4 : IntKind.i64.wrap (j1 : Int) = (j1 : Int) := by rw [IntKind.wrap_i64]; omega
        have e5 : IntKind.i64.wrap ((nv : Int) + 1) = (nv : Int) + 1 := by rw [IntKind.wrap_i64]; omega
        have e6 : IntKind.i64.wrap z1 = z1 := by rw [IntKind.wrap_i64]; omega
        have e7 : ¬ (nv : Int) + 1 = 0 := by omega
        have er3 : IntKind.i64.wrap (r : Int) = (r : Int) := by rw [IntKind.wrap_i64]; omega
        have HRn := Lib.hid (And.intro hrn (And.intro rc n20))
        have HBl := Lib.hid hbl
        have HCC := Lib.hid (And.intro c0 c1)
        have HZ0 := Lib.hid (And.intro z00 z01)
        go_wp2
        have hO4 := HO3.out.fresh (Below.refl _ w3).drew
        have hrow := hO4.row
        rw [HDn.out] at hrow
        have HRow := Lib.hid hrow
        have HSz := Lib.hid (show w.heap.size ≤ w3.drew.heap.size from hO4.be.size)
        have HMore : Hid (∀ (v' : Value) (w5 : World) (vv hh : Int) (o : Obj), w5.ownsRow w.heap.size 31 5 v' (dn + 1) (flatD ds ++ Deed7.cells ⟨z0, vv, hh, va, r, capv, vs.take r, ha, nh, caph, hs⟩) → (w3.drew.alloc o).grownBy w5 (Value.ownBlock (.slice a0 dn cp0)) → (∀ g, v'.ownBlock = some g → Value.ownBlock (.slice a0 dn cp0) = some g ∨ (w3.drew.alloc o).heap.size ≤ g) → OwnDeeds w v' (ds ++ [⟨z0, vv, hh, va, r, capv, vs.take r, ha, nh, caph, hs⟩]) w5) := Lib.hid fun v' w5 vv hh o q g hl => by
          rw [← HDn.out] at q
          obtain ⟨rv, rh, cv, n20, n15, o1, o2⟩ := HNew.out
          have hr1 := HRn.out.1
          exact hO4.more ⟨HZ0.out, rv.upto HRn.out.1, by simp only; omega, rh, by simp only; omega, by simp only; omega⟩ ⟨fun hp => o1 (by simp only at hp; omega), o2⟩ q g hl
        have HKD := Lib.hid (HK01.out _ hO4.be)
        have HKA := Lib.hid (show ∀ o, (w3.drew.alloc o).cell? ⟨b, off + j, none⟩ = some (.int .u8 z0) ∧ (w3.drew.alloc o).cell? ⟨b, off + j1, none⟩ = some (.int .u8 z1) from fun o => HK01.out _ (hO4.be.alloc hO4.be.size o))
        clear hO4 hrow HO3 HNew HBl HCC HZ0
        go_region_held_law (fun w' : World => w'.cell? ⟨b, off + j, none⟩ = some (.int .u8 z0) ∧ w'.cell? ⟨b, off + j1, none⟩ = some (.int .u8 z1)) (first | exact HKD.out | exact HKA.out _ | exact hS5 | assumption) ((refine step_append_later _ rfl _ _ 22 rfl w.heap.size 31 i0 _ 5 64 Try.underlying22 hi hz0 hz1 hz2 rfl (by decide) _ dn _ rfl (HRow.out.alloc _) ⟨w3.heap.size, 0, none⟩ 1 1 (Deed7.cells ⟨z0, _, _, va, r, capv, vs.take r, ha, nh, caph, hs⟩) rfl rfl (newDeed w3.drew _ _ _ _ _ _ _ _ _ _ _) (deedOne _) (by simp only [maxLen]; omega) (by omega) (Nat.le_trans HSz.out (by simp)) ?_; intro v' w5 hown' hgrow hlat; have H5 := Lib.hid (HMore.out _ _ _ _ _ hown' hgrow hlat); obtain ⟨a5, cp5, rfl⟩ := ownShape hown'; have hS5 := HK01.out _ H5.out.be; clear hown' hgrow hlat))
        all_goals
          clear e1 e2 e4 e5 e6 e7 er1 er2 er3
          go_wp2
          go_roundw
          case rel => exact ⟨j + 2, q + 1, _, by have := HJ.out.1; omega, by have := HJ.out.1; omega, by rw [List.length_append, HDn.out, HJ.out.2]; rfl, by go_num, H5.out⟩
          case measure => simp [intOf]; omega
      · have d1 : (j : Int) + 1 < lb := by omega
        have d6 : ¬ (j : Int) < 60 := by omega
        have HDs := Lib.hid HO.out.deeds
        have HBd := Lib.hid HO.out.be
        have C := doesAny wr most ao len cap xs (HDA.out.keep HBd.out) (fun x h => (HFine.out x h).keep HBd.out) (by omega)
        go_wp2_with fail
        refine C.mono ?_
        clear C
        rintro e w5 ⟨rfl, bl5⟩
        have HO5 := Lib.hid (HO.out.fresh bl5)
        clear bl5 HO HBd HDs
        have C := doesAny w5 (kk % 30) a0 dn cp0 ds (ownedDeeds HO5.out HDn.out) HO5.out.fine (by omega)
        go_wp2_with fail
        refine C.mono ?_
        clear C
        rintro e w6 ⟨rfl, bl6⟩
        have HB6 := Lib.hid (HO5.out.fresh bl6).be
        clear bl6 HO5
        have C := doesAny w6 (kk % 9) ao len cap xs (HDA.out.keep HB6.out) (fun x h => (HFine.out x h).keep HB6.out) (by omega)
        go_wp2_with fail
        refine C.mono ?_
        clear C
        rintro e w7 ⟨rfl, bl7⟩
        have HQ := Lib.hid (HB6.out.trans (bl7.mono HB6.out.size))
        clear bl7 HB6
        go_wp2
        go_ret
        exact ⟨rfl, HQ.out⟩
    · have d1 : ¬ (j : Int) + 1 < lb := by omega
      have HDs := Lib.hid HO.out.deeds
      have HBd := Lib.hid HO.out.be
      have C := doesAny wr most ao len cap xs (HDA.out.keep HBd.out) (fun x h => (HFine.out x h).keep HBd.out) (by omega)
      go_wp2_with fail
      refine C.mono ?_
      clear C
      rintro e w5 ⟨rfl, bl5⟩
      have HO5 := Lib.hid (HO.out.fresh bl5)
      clear bl5 HO HBd HDs
      have C := doesAny w5 (kk % 30) a0 dn cp0 ds (ownedDeeds HO5.out HDn.out) HO5.out.fine (by omega)
      go_wp2_with fail
      refine C.mono ?_
      clear C
      rintro e w6 ⟨rfl, bl6⟩
      have HB6 := Lib.hid (HO5.out.fresh bl6).be
      clear bl6 HO5
      have C := doesAny w6 (kk % 9) ao len cap xs (HDA.out.keep HB6.out) (fun x h => (HFine.out x h).keep HB6.out) (by omega)
      go_wp2_with fail
      refine C.mono ?_
      clear C
      rintro e w7 ⟨rfl, bl7⟩
      have HQ := Lib.hid (HB6.out.trans (bl7.mono HB6.out.size))
      clear bl7 HB6
      go_wp2
      go_ret
      exact ⟨rfl, HQ.out⟩

end Go.Proofs.Ytjcdbdhdmalfaaa
