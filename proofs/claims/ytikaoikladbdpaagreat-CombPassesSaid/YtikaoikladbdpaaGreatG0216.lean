/-
  slices.insertionSortCmpFunc sorts a range of a row of ints that rises. Conditions: a row of one's own; a comparison as CmpAt says. The order of a batch in plain lists: places, which of them put into a heap, sorted by their values, and then all others. Conditions: none; no Go function is looked at here. What reaperlaw04.Ops makes of bytes. Conditions: bytes. What reaperref04.Most and reaperref04.Do tell: as stkL, stkC and stkV say. Conditions: a list of at most a thousand numbers; a kind of 0 to 255.
-/
import Derived.Test.YtikaoikladbdpaaGreatG0116
namespace Go.Proofs.YtikaoikladbdpaaGreat
open Go.RowKit

def insRow (P M : List Int) (x : Int) (e : Nat) (R : List Int) : List Int := P ++ (M.take e ++ x :: M.drop e) ++ R

theorem insRow_step {P M R : List Int} {x : Int} {e : Nat} (he : e < M.length) :
    ((insRow P M x (e + 1) R).set (P.length + e + 1) (M.getD e 0)).set (P.length + e) x = insRow P M x e R ∧ (insRow P M x (e + 1) R).getD (P.length + e) 0 = M.getD e 0 ∧ (insRow P M x (e + 1) R).getD (P.length + e + 1) 0 = x := by
  have ea : M.drop e = M.getD e 0 :: M.drop (e + 1) := by rw [List.drop_eq_getElem_cons he]; simp [List.getD, he]
  have ta : M.take (e + 1) = M.take e ++ [M.getD e 0] := by rw [List.take_succ_eq_append_getElem he]; simp [List.getD, he]
  have l1 : (P ++ M.take e).length = P.length + e := by simp; omega
  have r1 : insRow P M x (e + 1) R = (P ++ M.take e) ++ M.getD e 0 :: x :: (M.drop (e + 1) ++ R) := by unfold insRow; rw [ta]; simp
  have r0 : insRow P M x e R = (P ++ M.take e) ++ x :: M.getD e 0 :: (M.drop (e + 1) ++ R) := by unfold insRow; rw [ea]; simp
  have h := exch1' (P ++ M.take e) (M.drop (e + 1) ++ R) (M.getD e 0) x
  have h2 := getD_head (P ++ M.take e) (x :: (M.drop (e + 1) ++ R)) (M.getD e 0)
  have h3 := getD_at (P ++ M.take e) (M.getD e 0 :: x :: (M.drop (e + 1) ++ R)) 1
  rw [l1] at h h2 h3
  rw [r1, r0]
  exact ⟨h, h2, by rw [show P.length + e + 1 = P.length + e + 1 from rfl]; simpa using h3⟩

theorem insRow_end (P M : List Int) (x : Int) (R : List Int) : insRow P M x M.length R = P ++ M ++ x :: R := by unfold insRow; simp

structure Rises (N : Int) (X : List Int) : Prop where
  up : X.Pairwise (· < ·)
  ok : ∀ x ∈ X, 0 ≤ x ∧ x < N

def InsOut (w : World) (g n cap : Nat) (key : Int → Int) (P X S : List Int) (k : Nat) (wr : World) : Prop :=
  ∃ M : List Int, M.Perm (X.take k) ∧ Srt key M ∧ IRow wr g n cap (P ++ M ++ (X.drop k ++ S)) ∧ Wrote (At1 g) w wr
def InsIn (w : World) (g n cap : Nat) (key : Int → Int) (P M : List Int) (x : Int) (R : List Int) (e : Nat) (wr : World) : Prop :=
  (e = M.length ∨ kLe key x (M.getD e 0)) ∧ IRow wr g n cap (insRow P M x e R) ∧ Wrote (At1 g) w wr

theorem InsIn.done {w wr : World} {g n cap : Nat} {key : Int → Int} {P M X S : List Int} {k e : Nat} (hk : k < X.length) (hp : M.Perm (X.take k)) (hs : Srt key M) (he : e ≤ M.length) (h1 : e = 0 ∨ kLe key (M.getD (e - 1) 0) (X.getD k 0))
    (h : InsIn w g n cap key P M (X.getD k 0) (X.drop (k + 1) ++ S) e wr) : InsOut w g n cap key P X S (k + 1) wr := by
  obtain ⟨h2, hr, hw⟩ := h
  obtain ⟨p, s⟩ := merged_front hs he h1 h2
  refine ⟨_, ?_, s, hr, hw⟩
  rw [List.take_succ_eq_append_getElem hk, show X[k] = X.getD k 0 by simp [List.getD, hk]]
  exact (p.trans (List.Perm.cons _ hp)).trans (List.perm_append_singleton _ _).symm

theorem InsOut.begin {w wr : World} {g n cap : Nat} {key : Int → Int} {P X S M : List Int} {k : Nat} (hk : k < X.length) (hr : IRow wr g n cap (P ++ M ++ (X.drop k ++ S))) (hw : Wrote (At1 g) w wr) : InsIn w g n cap key P M (X.getD k 0) (X.drop (k + 1) ++ S) M.length wr := by
  refine ⟨.inl rfl, ?_, hw⟩
  have e : X.drop k = X.getD k 0 :: X.drop (k + 1) := by rw [List.drop_eq_getElem_cons hk]; simp [List.getD, hk]
  rw [insRow_end, ← List.cons_append, ← e]
  exact hr

theorem rises_at {N : Int} {X M : List Int} {k j : Nat} (h : Rises N X) (hk : k < X.length) (hp : M.Perm (X.take k)) (hj : j < M.length) : 0 ≤ M.getD j 0 ∧ M.getD j 0 < N ∧ M.getD j 0 < X.getD k 0 ∧ 0 ≤ X.getD k 0 ∧ X.getD k 0 < N := by
  have hm : M.getD j 0 ∈ X.take k := hp.mem_iff.1 (by simp [List.getD, hj])
  have hx : X.getD k 0 ∈ X := by simp [List.getD, hk]
  have h1 := h.ok _ (List.mem_of_mem_take hm)
  have h2 := h.ok _ hx
  have h3 := h.up
  rw [split_at X hk, List.pairwise_append] at h3
  exact ⟨h1.1, h1.2, h3.2.2 _ hm _ List.mem_cons_self, h2.1, h2.2⟩

def Sortd (w : World) (g n cap : Nat) (key : Int → Int) (P X S : List Int) (e : Ending) (w' : World) : Prop :=
  e = .returned (.tuple #[]) ∧ ∃ M : List Int, M.Perm X ∧ Srt key M ∧ IRow w' g n cap (P ++ M ++ S) ∧ Wrote (At1 g) w w'

theorem InsOut.end {w wr : World} {g n cap : Nat} {key : Int → Int} {P X S : List Int} {k : Nat} (hk : X.length ≤ k) (h : InsOut w g n cap key P X S k wr) : Sortd w g n cap key P X S (.returned (.tuple #[])) wr := by
  obtain ⟨M, hp, hs, hr, hw⟩ := h
  rw [List.take_of_length_le hk] at hp
  rw [List.drop_eq_nil_of_le hk] at hr
  exact ⟨rfl, M, hp, hs, by simpa using hr, hw⟩

set_option maxRecDepth 100000 in
set_option maxHeartbeats 8000000 in
theorem insSort (w : World) (g n cap : Nat) (key : Int → Int) (N : Int) (B : Nat) (P X S : List Int) (a b : Int) (h : IRow w g n cap (P ++ X ++ S)) (hC : CmpAt key N B g w) (hX : Rises N X) (ha : a = P.length) (hb : b = P.length + X.length) (hn : n ≤ 1000000) :
    Calls Tryz.prog 244 #[.slice (some ⟨g, 0, none⟩) n cap, .int .i64 a, .int .i64 b, .func (.func 235) #[] #[.pointer (some ⟨B, 0, none⟩)]] w (Sortd w g n cap key P X S) := by
  have hl : P.length + X.length + S.length = n := by have := h.len; simp at this; omega
  have a0 : 0 ≤ a := by omega
  have a1 : a ≤ n := by omega
  have b1 : b ≤ n := by omega
  have HC := Lib.hid hC
  have HX := Lib.hid hX
  have HA := Lib.hid (And.intro ha (And.intro hb hl))
  have HS := Lib.hid (show (X = [] ∧ a + 1 = P.length + 1 ∧ InsOut w g n cap key P X S 0 w) ∨ ∃ k, 1 ≤ k ∧ k ≤ X.length ∧ a + 1 = P.length + k ∧ InsOut w g n cap key P X S k w from by
    rcases X with _ | ⟨x, X⟩
    · exact .inl ⟨rfl, by omega, [], by simp, List.Pairwise.nil, by simpa using h, Wrote.refl _ _⟩
    · exact .inr ⟨1, by omega, by simp, by omega, [x], by simp, srt_one x, by simpa using h, Wrote.refl _ _⟩)
  clear h hC hX ha hb hl
  go_enter Tryz.func244, Tryz.ntmps244
  go_wp2
  go_loopw [8] (fun i wr => ∃ z : Int, i = .int .i64 z ∧ ((X = [] ∧ z = P.length + 1 ∧ InsOut w g n cap key P X S 0 wr) ∨ ∃ k, 1 ≤ k ∧ k ≤ X.length ∧ z = P.length + k ∧ InsOut w g n cap key P X S k wr)) (fun i _ => (P.length + X.length + 1) - (intOf i).toNat)
  case atStart => exact ⟨_, rfl, HS.out⟩
  case round =>
    obtain ⟨z, rfl, hrel⟩ := hrel
    rcases hrel with ⟨h0, hz, ho⟩ | ⟨k, k0, k1, hz, ho⟩
    · have z1 : ¬ z < b := by have := HA.out; rw [h0] at this; simp at this; omega
      have HF := Lib.hid (ho.end (by rw [h0]; simp))
      clear HS h0 hz ho
      go_wp2
      go_end0
      exact HF.out
    · by_cases hlt : k < X.length
      · obtain ⟨M, hp, hs, hr, hw⟩ := ho
        have hML : M.length = k := by rw [hp.length_eq]; simp; omega
        have z1 : z < b := by have := HA.out; omega
        have z0 : 0 ≤ z := by omega
        have z2 : z < n := by have := HA.out; omega
        have HI := Lib.hid (InsOut.begin (key := key) hlt hr hw)
        have HZ := Lib.hid (And.intro hz (And.intro hML (And.intro hp hs)))
        clear HS hz hr hw hp hs
        generalize wr = wo at *
        go_wp2
        go_loopw [9] (fun j wq => ∃ (y : Int) (e : Nat), j = .int .i64 y ∧ y = P.length + e ∧ e ≤ M.length ∧ InsIn w g n cap key P M (X.getD k 0) (X.drop (k + 1) ++ S) e wq) (fun j _ => (intOf j).toNat)
        case atStart => exact ⟨_, M.length, rfl, by have := HZ.out; omega, Nat.le_refl _, HI.out⟩
        case round =>
          obtain ⟨y, e, rfl, hy, he, hin⟩ := hrel
          clear HI
          cases e with
          | zero =>
            have HD := Lib.hid (fun q => InsIn.done (wr := wr.drewN q) hlt HZ.out.2.2.1 HZ.out.2.2.2 he (.inl rfl) ⟨hin.1, hin.2.1.drewN q, hin.2.2.drewN q⟩)
            have d1 : decide (y > a) = false := by have := HA.out; simp; omega
            have d2 : ¬ a < y := by have := HA.out; omega
            clear hy he hin
            go_wp2_with fail
            go_quiet (fail)
            go_wp2
            go_roundw
            case rel => exact ⟨z + 1, by go_num, .inr ⟨k + 1, by omega, by omega, by have := HZ.out; omega, HD.out _⟩⟩
            case measure => have := HZ.out; simp [intOf]; omega
          | succ e =>
            obtain ⟨p, hp⟩ : ∃ p, P.length + e = p := ⟨_, rfl⟩
            obtain ⟨q, hq⟩ : ∃ q, P.length + e + 1 = q := ⟨_, rfl⟩
            obtain ⟨x, hx⟩ : ∃ x, X.getD k 0 = x := ⟨_, rfl⟩
            obtain ⟨m, hm⟩ : ∃ m, M.getD e 0 = m := ⟨_, rfl⟩
            have hst := insRow_step (P := P) (M := M) (R := X.drop (k + 1) ++ S) (x := x) (e := e) (by omega)
            have hri := rises_at HX.out hlt HZ.out.2.2.1 (j := e) (by omega)
            have hpn : q < n := by have := HA.out; have := HZ.out; omega
            have hin2 := hin.2.1
            rw [hx] at hin2
            rw [hq, hp, hm] at hst
            rw [hx, hm] at hri
            have c1 := hin2.cell (i := q) (by omega)
            have c2 := hin2.cell (i := p) (by omega)
            rw [hst.2.2] at c1
            rw [hst.2.1] at c2
            have d1 : decide (y > a) = true := by have := HA.out; simp; omega
            have d2 : a < y := by have := HA.out; omega
            have d3 : decide (a < y) = true := by simp; omega
            have e1 : y.toNat = q := by omega
            have e2 : (y - 1).toNat = p := by omega
            have e3 : IntKind.i64.wrap (y - 1) = y - 1 := by rw [IntKind.wrap_i64]; omega
            have e4 : 0 ≤ y := by omega
            have e5 : 0 ≤ y - 1 := by omega
            have e6 : y < n := by omega
            have e7 : y - 1 < n := by omega
            have CD := fun q => Calls.quiet_of (HC.out (wr.drewN q) x m (hin.2.2.drewN q) (by omega) (by omega) (by omega) (by omega))
            obtain ⟨c, hc⟩ : ∃ c, cmp3 (key x) (key m) = c := ⟨_, rfl⟩
            simp only [hc] at CD
            by_cases hlt2 : key x < key m
            · have c0 : c < 0 := by rw [← hc]; exact cmp3_lt hlt2
              have d4 : decide (c < 0) = true := by simp [c0]
              have HN := Lib.hid (fun t => And.intro (hin2.drewN t) (hin.2.2.drewN t))
              have HK := Lib.hid (And.intro (kLe.of_lt hlt2) (And.intro hm (And.intro hx (And.intro hst hy))))
              have HP := Lib.hid (And.intro hp hq)
              have pn : p < n := by omega
              clear hy hin hin2 hst hri hp hq hx hm hc hlt2
              go_wp2_with fail
              go_quiet ((go_at_call 235; exact CD _))
              have HR2 := Lib.hid (HN.out nq).1
              have HW2 := Lib.hid (HN.out nq).2
              clear CD HN c1 c2
              generalize wr.drewN nq = w2 at *
              have c1 := HR2.out.cell (i := q) (by omega)
              have c2 := HR2.out.cell (i := p) (by omega)
              rw [HK.out.2.2.2.1.2.2] at c1
              rw [HK.out.2.2.2.1.2.1] at c2
              have f1 := HR2.out.free q
              have f2 := HR2.out.free p
              obtain ⟨u, c3⟩ := HR2.out.still (i := q) (j := p) (by omega) (by omega) m
              have HN := Lib.hid (HR2.out.swap q p m x)
              have HV := Lib.hid (HW2.out.trans (wrote_swap w2 g q p (.int .i64 m) (.int .i64 x)))
              clear HR2 HW2
              go_wp2_with fail
              go_big_region
              clear c1 c2 c3 f1 f2 e1 e2 e3
              generalize ((w2.setCell ⟨g, q, none⟩ (.int .i64 m)).setCell ⟨g, p, none⟩ (.int .i64 x)).drew = w3 at *
              go_wp2
              go_roundw
              case rel => exact ⟨y - 1, e, by go_num, by have := HK.out.2.2.2.2; omega, by omega, .inr (by rw [HK.out.2.1, HK.out.2.2.1]; exact HK.out.1), by rw [HK.out.2.2.1, ← HK.out.2.2.2.1.1]; exact HN.out, HV.out⟩
              case measure => simp [intOf]; omega
            · have c0 : ¬ c < 0 := by rw [← hc]; have := cmp3_ge hlt2; omega
              have d4 : decide (c < 0) = false := by simp; omega
              have HD := Lib.hid (fun t => InsIn.done (wr := wr.drewN t) hlt HZ.out.2.2.1 HZ.out.2.2.2 he (.inr (by rw [hx, show e + 1 - 1 = e by omega, hm]; exact kLe.of_not hlt2 (by omega))) ⟨hin.1, hin.2.1.drewN t, hin.2.2.drewN t⟩)
              clear hy hin hin2 hst hri hp hq hx hm hc hlt2
              go_wp2_with fail
              go_quiet ((go_at_call 235; exact CD _))
              clear CD c1 c2 e1 e2 e3
              go_wp2
              go_roundw
              case rel => exact ⟨z + 1, by go_num, .inr ⟨k + 1, by omega, by omega, by have := HZ.out; omega, HD.out _⟩⟩
              case measure => have := HZ.out; simp [intOf]; omega
      · have z1 : ¬ z < b := by have := HA.out; omega
        have HF := Lib.hid (ho.end (by omega))
        clear HS hz ho
        go_wp2
        go_end0
        exact HF.out

end Go.Proofs.YtikaoikladbdpaaGreat
namespace Go.Proofs.YtikaoikladbdpaaGreat

def idx (k : Nat) : List Int := (List.range k).map Int.ofNat
def isAdd (obj : Int) (os : List (Int × Int)) (i : Int) : Bool := obj == 3 && (os.getD i.toNat (0, 0)).1 == 1
def addsOf (obj : Int) (os : List (Int × Int)) (k : Nat) : List Int := (idx k).filter (isAdd obj os)
def othersOf (obj : Int) (os : List (Int × Int)) (k : Nat) : List Int := (idx k).filter (fun i => !isAdd obj os i)

theorem idx_succ (k : Nat) : idx (k + 1) = idx k ++ [(k : Int)] := by unfold idx; rw [List.range_succ]; simp
theorem idx_length (k : Nat) : (idx k).length = k := by simp [idx]
theorem mem_idx {k : Nat} {x : Int} : x ∈ idx k ↔ 0 ≤ x ∧ x < k := by
  unfold idx
  simp only [List.mem_map, List.mem_range]
  constructor
  · rintro ⟨i, hi, rfl⟩; simp; omega
  · rintro ⟨h1, h2⟩; exact ⟨x.toNat, by omega, by simp; omega⟩
theorem idx_rise (k : Nat) : (idx k).Pairwise (· < ·) := by
  unfold idx
  rw [List.pairwise_map]
  exact (List.pairwise_lt_range (n := k)).imp (fun h => by simpa using h)
theorem idx_getD {k i : Nat} (h : i < k) : (idx k).getD i 0 = i := by simp [idx, List.getD, h]

section
variable {obj : Int} {os : List (Int × Int)} {k : Nat}
theorem adds_yes (h : isAdd obj os k = true) : addsOf obj os (k + 1) = addsOf obj os k ++ [(k : Int)] ∧ othersOf obj os (k + 1) = othersOf obj os k := by
  unfold addsOf othersOf; rw [idx_succ, List.filter_append, List.filter_append]; simp [h]
theorem adds_no (h : isAdd obj os k = false) : addsOf obj os (k + 1) = addsOf obj os k ∧ othersOf obj os (k + 1) = othersOf obj os k ++ [(k : Int)] := by
  unfold addsOf othersOf; rw [idx_succ, List.filter_append, List.filter_append]; simp [h]
theorem adds_rise (obj : Int) (os : List (Int × Int)) (k : Nat) : Rises k (addsOf obj os k) :=
  ⟨List.Pairwise.filter _ (idx_rise k), fun _ hx => mem_idx.1 (List.mem_filter.1 hx).1⟩
theorem both_perm (obj : Int) (os : List (Int × Int)) (k : Nat) : (addsOf obj os k ++ othersOf obj os k).Perm (idx k) := List.filter_append_perm _ _
theorem both_length (obj : Int) (os : List (Int × Int)) (k : Nat) : (addsOf obj os k).length + (othersOf obj os k).length = k := by
  have := (both_perm obj os k).length_eq
  rw [List.length_append, idx_length] at this
  exact this
theorem adds_none (h : ¬ obj = 3) : addsOf obj os k = [] ∧ othersOf obj os k = idx k := by
  have h1 : ∀ i, isAdd obj os i = false := fun i => by simp [isAdd, h]
  unfold addsOf othersOf
  simp [h1]
end

def insB (key : Int → Int) (x : Int) : List Int → List Int
  | [] => [x]
  | y :: l => if key x < key y ∨ (key x = key y ∧ x ≤ y) then x :: y :: l else y :: insB key x l
def sortB (key : Int → Int) : List Int → List Int
  | [] => []
  | x :: l => insB key x (sortB key l)

theorem insB_perm (key : Int → Int) (x : Int) : ∀ l, (insB key x l).Perm (x :: l)
  | [] => List.Perm.refl _
  | y :: l => by
    unfold insB
    split
    · exact List.Perm.refl _
    · exact (List.Perm.cons y (insB_perm key x l)).trans (List.Perm.swap x y l)
theorem insB_srt {key : Int → Int} {x : Int} : ∀ {l}, Srt key l → Srt key (insB key x l)
  | [], _ => srt_one x
  | y :: l, h => by
    unfold insB
    obtain ⟨h1, h2⟩ := List.pairwise_cons.1 h
    split
    · rename_i c
      exact List.pairwise_cons.2 ⟨fun z hz => by
        rcases List.mem_cons.1 hz with e | e
        · subst e; exact c
        · exact kLe.trans c (h1 z e), h⟩
    · rename_i c
      refine List.pairwise_cons.2 ⟨fun z hz => ?_, insB_srt h2⟩
      rcases List.mem_cons.1 ((insB_perm key x l).mem_iff.1 hz) with e | e
      · subst e; unfold kLe; omega
      · exact h1 z e
theorem sortB_ok (key : Int → Int) : ∀ l, (sortB key l).Perm l ∧ Srt key (sortB key l)
  | [] => ⟨List.Perm.refl _, List.Pairwise.nil⟩
  | x :: l => ⟨(insB_perm key x _).trans (List.Perm.cons x (sortB_ok key l).1), insB_srt (sortB_ok key l).2⟩
theorem sortB_is {key : Int → Int} {l M : List Int} (hp : M.Perm l) (hs : Srt key M) : M = sortB key l := srt_unique hs (sortB_ok key l).2 (hp.trans (sortB_ok key l).1.symm)

def ordK (obj : Int) (os : List (Int × Int)) (k : Nat) : List Int := sortB (keyOf os) (addsOf obj os k) ++ othersOf obj os k
def ordL (obj : Int) (os : List (Int × Int)) : List Int := ordK obj os os.length

theorem ordK_length (obj : Int) (os : List (Int × Int)) (k : Nat) : (ordK obj os k).length = k := by
  unfold ordK
  rw [List.length_append, (sortB_ok _ _).1.length_eq]
  exact both_length obj os k
theorem ordK_perm (obj : Int) (os : List (Int × Int)) (k : Nat) : (ordK obj os k).Perm (idx k) := (List.Perm.append_right _ (sortB_ok _ _).1).trans (both_perm obj os k)
theorem ordL_length (obj : Int) (os : List (Int × Int)) : (ordL obj os).length = os.length := ordK_length _ _ _
theorem ordL_plain {obj : Int} {os : List (Int × Int)} (h : ¬ obj = 3) : ordL obj os = idx os.length := by
  unfold ordL ordK
  obtain ⟨h1, h2⟩ := adds_none (os := os) (k := os.length) h
  rw [h1, h2]
  rfl
theorem mem_ordL {obj : Int} {os : List (Int × Int)} {x : Int} : x ∈ ordL obj os ↔ 0 ≤ x ∧ x < os.length := (ordK_perm obj os os.length).mem_iff.trans mem_idx
theorem ordL_at {obj : Int} {os : List (Int × Int)} {i : Nat} (h : i < os.length) : 0 ≤ (ordL obj os).getD i 0 ∧ (ordL obj os).getD i 0 < os.length :=
  (mem_ordL (obj := obj)).1 (by simp [List.getD, show i < (ordL obj os).length by rw [ordL_length]; exact h])

end Go.Proofs.YtikaoikladbdpaaGreat
namespace Go.Proofs.YtikaoikladbdpaaGreat
open Go.RowKit

def flatO (os : List (Int × Int)) : List Value := os.flatMap fun o => [.int .u8 o.1, .int .i32 o.2]
theorem flatO_length (os : List (Int × Int)) : (flatO os).length = os.length * 2 := by
  induction os with
  | nil => rfl
  | cons o os ih => simp only [flatO, List.flatMap_cons, List.length_append, List.length_cons, List.length_nil] at ih ⊢; omega
theorem flatO_at (os : List (Int × Int)) (i : Nat) (hi : i < os.length) : (flatO os)[i * 2]? = some (.int .u8 (os.getD i (0, 0)).1) ∧ (flatO os)[i * 2 + 1]? = some (.int .i32 (os.getD i (0, 0)).2) := by
  induction os generalizing i with
  | nil => simp at hi
  | cons o os ih =>
    cases i with
    | zero => simp [flatO]
    | succ i =>
      have := ih i (by simpa using hi)
      rw [show (i + 1) * 2 = i * 2 + 2 by omega, show i * 2 + 2 + 1 = i * 2 + 1 + 2 by omega]
      simpa [flatO, List.flatMap_cons] using this

end Go.Proofs.YtikaoikladbdpaaGreat
namespace Go.Proofs.YtikaoikladbdpaaGreat
open Go.RowKit

def stkL (most : Int) (zs : List Int) (k x : Int) : List Int :=
  if k = 1 then (if (zs.length : Int) < most then zs ++ [x] else zs) else if k = 2 then zs.dropLast else zs
def stkC (most : Int) (zs : List Int) (k : Int) : Int :=
  if k = 1 then (if (zs.length : Int) < most then 1 else 3) else if k = 2 then (if zs = [] then 4 else 2) else 5
def stkV (zs : List Int) (k : Int) : Int := if k = 2 then zs.getLastD 0 else 0

theorem run_append_nothing {P : Program} (w : World) (base : Nat) (t ty e : TypeId) (i : TypeInfo) (size : Nat) (ht : P.underlying t = some (.slice e)) (hi : P.info? e = some i) (v : Value) (n : Nat) (xs : List Value) (hown : w.ownsRow base e size v n xs) (c : Nat) :
    (Builtin.append_ #[t, t] ty #[v, .slice none 0 c]).run P w = .ok v w := by
  rcases hown.2 with ⟨rfl, rfl⟩ | ⟨g, cap, cur, rfl, _, _, hle, _⟩
  · simp [Builtin.append_, run_underlying ht, sizeOf, typeInfo, hi, Builtin.lenOf, Builtin.firstCells]
  · simp [Builtin.append_, run_underlying ht, sizeOf, typeInfo, hi, Builtin.lenOf, Builtin.firstCells, hle, storeCells]

theorem wpList_append_src {P : Program} (w : World) {ops : Array Oper} {rest : List Oper} {o : Oper} {a : Act} {Q : Exit → Act → World → Prop} (hgd : o.guard = none) (s x : Operand) (t : TypeId)
    (ho : o.op = .call { callee := .builtin .append, args := #[s, x], argTypes := #[t, t] })
    (base : Nat) (e : TypeId) (i : TypeInfo) (z : Value) (size bytes : Nat) (ht : P.underlying t = some (.slice e)) (hi : P.info? e = some i) (hz : i.zero = some z)
    (hsize : i.size = size) (hby : i.bytes = bytes) (hzs : z.cells.size = size) (hsz : 0 < size)
    (v : Value) (n : Nat) (xs : List Value) (hs : a.eval s = v) (hown : w.ownsRow base e size v n xs)
    (A : Option Addr) (m c : Nat) (news : List Value) (hx : a.eval x = .slice A m c) (hl : news.length = m * size) (hnews : 0 < m → ∃ ad, A = some ad ∧ ∀ j u, news[j]? = some u → w.cell? (ad.add j) = some u) (h1 : ∀ u ∈ news, u.oneCell' = true)
    (h63 : n + m ≤ maxLen) (hbytes : (n + m) * bytes ≤ 140737488355328) (hbase : base ≤ w.heap.size)
    (h : ∀ v' w', w'.ownsRow base e size v' (n + m) (xs ++ news) → w.grownBy w' v.ownBlock → wpList P ops Q rest (a.put o.dst v') w') : wpList P ops Q (o :: rest) a w := by
  cases A with
  | some ad =>
    refine wpList_append_own w hgd s x t ho base e i z size bytes ht hi hz hsize hby hzs hsz v n xs hs hown ad m c news hx hl ?_ h1 h63 hbytes hbase fun v' w' h2 h3 _ => h v' w' h2 h3
    rcases Nat.eq_zero_or_pos m with h0 | h0
    · subst h0
      have hn : news = [] := List.eq_nil_of_length_eq_zero (by simpa using hl)
      subst hn
      intro j u hu
      simp at hu
    · obtain ⟨ad', e', hc⟩ := hnews h0
      injection e' with e'
      subst e'
      exact hc
  | none =>
    have hm : m = 0 := by
      rcases Nat.eq_zero_or_pos m with h0 | h0
      · exact h0
      · obtain ⟨_, e', _⟩ := hnews h0
        cases e'
    subst hm
    have hn : news = [] := List.eq_nil_of_length_eq_zero (by simpa using hl)
    subst hn
    refine wpList_plain hgd fun K hK => ?_
    have hrun := run_append_nothing (P := P) w base t o.type e i size ht hi v n xs hown c
    unfold Oper.wp
    simp [execOp, ho, resolve, invoke, builtin, hs, hx, hrun, Result.andThen]
    exact hK _ _ (h v w (by simpa using hown) ⟨rfl, rfl, rfl, Nat.le_refl _, fun _ _ _ => rfl⟩)

section
variable {w W w1 : World} {ao : Option Addr} {n cap : Nat} {zs : List Int}
end

end Go.Proofs.YtikaoikladbdpaaGreat
