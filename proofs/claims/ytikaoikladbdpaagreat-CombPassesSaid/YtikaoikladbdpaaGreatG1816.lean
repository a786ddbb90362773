/-
  slices.symMergeCmpFunc merges two sorted ranges of a row of ints that lie side by side, where one of them has one number. Conditions: a row of one's own; a comparison as CmpAt says; the left numbers are less than the right ones. slices.symMergeCmpFunc merges two sorted ranges of a row of ints that lie side by side, however many numbers they have. Conditions: a row of one's own; a comparison as CmpAt says; the left numbers are less than the right ones. slices.SortStableFunc sorts a row of ints that rises, by keys, and keeps the order of those of one key. Conditions: a row of one's own; a comparison as CmpAt says.
-/
import Derived.Test.YtikaoikladbdpaaGreatQSymM11m
namespace Go.Proofs.YtikaoikladbdpaaGreat
open Go.RowKit

theorem insRow_up {P M R : List Int} {x : Int} {e : Nat} (he : e < M.length) :
    ((insRow P M x e R).set (P.length + e) (M.getD e 0)).set (P.length + e + 1) x = insRow P M x (e + 1) R ∧ (insRow P M x e R).getD (P.length + e) 0 = x ∧ (insRow P M x e R).getD (P.length + e + 1) 0 = M.getD e 0 := by
  have ea : M.drop e = M.getD e 0 :: M.drop (e + 1) := by rw [List.drop_eq_getElem_cons he]; simp [List.getD, he]
  have ta : M.take (e + 1) = M.take e ++ [M.getD e 0] := by rw [List.take_succ_eq_append_getElem he]; simp [List.getD, he]
  have l1 : (P ++ M.take e).length = P.length + e := by simp; omega
  have r1 : insRow P M x (e + 1) R = (P ++ M.take e) ++ M.getD e 0 :: x :: (M.drop (e + 1) ++ R) := by unfold insRow; rw [ta]; simp
  have r0 : insRow P M x e R = (P ++ M.take e) ++ x :: M.getD e 0 :: (M.drop (e + 1) ++ R) := by unfold insRow; rw [ea]; simp
  have h := exch1 (P ++ M.take e) (M.drop (e + 1) ++ R) x (M.getD e 0)
  have h2 := getD_head (P ++ M.take e) (M.getD e 0 :: (M.drop (e + 1) ++ R)) x
  have h3 := getD_at (P ++ M.take e) (x :: M.getD e 0 :: (M.drop (e + 1) ++ R)) 1
  rw [l1] at h h2 h3
  rw [r1, r0]
  exact ⟨h, h2, by simpa using h3⟩

def SeekL (key : Int → Int) (M : List Int) (x : Int) (i j : Nat) : Prop := (i = 0 ∨ key (M.getD (i - 1) 0) < key x) ∧ (j = M.length ∨ ¬ key (M.getD j 0) < key x)
def SeekR (key : Int → Int) (M : List Int) (x : Int) (i j : Nat) : Prop := (i = 0 ∨ ¬ key x < key (M.getD (i - 1) 0)) ∧ (j = M.length ∨ key x < key (M.getD j 0))

def Ins1Rel (w : World) (g n cap : Nat) (P M : List Int) (x : Int) (S : List Int) (e : Nat) (wr : World) : Prop := IRow wr g n cap (insRow P M x e S) ∧ Wrote (At1 g) w wr

set_option maxRecDepth 100000 in
set_option maxHeartbeats 16000000 in
theorem symLeft (w : World) {g n cap : Nat} {key : Int → Int} {N : Int} {B : Nat} (P R S : List Int) (x : Int) (a m b : Int) (h : IRow w g n cap (P ++ [x] ++ R ++ S)) (hC : CmpAt key N B g w) (hs : Srt key R) (hlt : ∀ y ∈ R, x < y) (hok : ∀ y ∈ x :: R, 0 ≤ y ∧ y < N)
    (ha : a = P.length) (hm : m = P.length + 1) (hb : b = P.length + 1 + R.length) (hn : n ≤ 1000000) :
    Calls Tryz.prog 245 #[.slice (some ⟨g, 0, none⟩) n cap, .int .i64 a, .int .i64 m, .int .i64 b, .func (.func 235) #[] #[.pointer (some ⟨B, 0, none⟩)]] w (Sortd w g n cap key P (x :: R) S) := by
  have hl : P.length + 1 + R.length + S.length = n := by have := h.len; simp at this; omega
  have hr0 : IRow w g n cap (insRow P R x 0 S) := by unfold insRow; simpa using h
  have HC := Lib.hid hC
  have HL := Lib.hid (And.intro ha (And.intro hm (And.intro hb hl)))
  have HS := Lib.hid (And.intro hs (And.intro hlt hok))
  have HR := Lib.hid hr0
  have a0 : 0 ≤ a := by omega
  have am : a < m := by omega
  have mb : m ≤ b := by omega
  have bn : b ≤ n := by omega
  have d1 : (m - a == 1) = true := beq_iff_eq.2 (by omega)
  have an : a < n := by omega
  have mn : m ≤ n := by omega
  clear h hr0 hC hs hlt hok ha hm hb hl
  go_enter Tryz.func245, Tryz.ntmps245
  go_wp2_with (fail)
  go_loopw [10, 11] (fun iv jv wr => ∃ (iz jz : Int) (i j : Nat), iv = .int .i64 iz ∧ jv = .int .i64 jz ∧ iz = P.length + 1 + i ∧ jz = P.length + 1 + j ∧ i ≤ j ∧ j ≤ R.length ∧ SeekL key R x i j ∧ Ins1Rel w g n cap P R x S 0 wr) (fun iv jv _ => (intOf jv).toNat - (intOf iv).toNat)
  case atStart => exact ⟨m, b, 0, R.length, rfl, rfl, by have := HL.out; omega, by have := HL.out; omega, Nat.zero_le _, Nat.le_refl _, ⟨.inl rfl, .inl rfl⟩, HR.out, Wrote.refl _ _⟩
  case round =>
    obtain ⟨iz, jz, i, j, rfl, rfl, hiz, hjz, hij, hjl, hsk, hr, hw⟩ := hrel
    clear HR
    by_cases hlt : i < j
    · have z1 : iz < jz := by omega
      have z2 : iz ≤ (iz + jz) / 2 := by omega
      have z3 : (iz + jz) / 2 < jz := by omega
      obtain ⟨h, hh⟩ : ∃ h : Nat, (iz + jz) / 2 = P.length + 1 + h := ⟨((iz + jz) / 2).toNat - (P.length + 1), by omega⟩
      obtain ⟨p, hp⟩ : ∃ p, P.length = p := ⟨_, rfl⟩
      obtain ⟨q, hq⟩ : ∃ q, P.length + 1 + h = q := ⟨_, rfl⟩
      have c1 := hr.cell (i := p) (by have := HL.out; omega)
      have c2 := hr.cell (i := q) (by have := HL.out; omega)
      have ec1 : (insRow P R x 0 S).getD p 0 = x := by rw [← hp]; unfold insRow; simp
      have ec2 : (insRow P R x 0 S).getD q 0 = R.getD h 0 := by
        have e : insRow P R x 0 S = (P ++ [x]) ++ (R ++ S) := by unfold insRow; simp
        rw [e, ← hq, show P.length + 1 + h = (P ++ [x]).length + h by simp, getD_at, getD_left _ _ _ (by omega)]
      rw [ec1] at c1
      rw [ec2] at c2
      have bx := HS.out.2.2 x (by simp)
      have bY := HS.out.2.2 (R.getD h 0) (List.mem_cons_of_mem _ (by simp [List.getD, show h < R.length by omega]))
      have CD := fun q => Calls.quiet_of (HC.out (wr.drewN q) (R.getD h 0) x (hw.drewN q) bY.1 bY.2 bx.1 bx.2)
      obtain ⟨c0, hc0⟩ : ∃ c, cmp3 (key (R.getD h 0)) (key x) = c := ⟨_, rfl⟩
      simp only [hc0] at CD
      have HN := Lib.hid (fun t => And.intro (hr.drewN t) (hw.drewN t))
      have HQ := Lib.hid (And.intro hsk (And.intro hiz (And.intro hjz (And.intro hh (And.intro hij hjl)))))
      have e1 : ((iz + jz) / 2).toNat = q := by omega
      have e2 : 0 ≤ (iz + jz) / 2 := by omega
      have e3 : (iz + jz) / 2 < n := by have := HL.out; omega
      have e4 : a.toNat = p := by have := HL.out; omega
      have hhj : h < j := by omega
      have hih : i ≤ h := by omega
      have i0 : 0 ≤ iz := by omega
      have jn : jz ≤ n := by have := HL.out; omega
      clear ec1 ec2 hsk hr hw bx bY hp hq hiz hjz hh hlt hij hjl
      by_cases hky : key (R.getD h 0) < key x
      · have d3 : c0 < 0 := by rw [← hc0]; exact cmp3_lt hky
        have d4 : decide (c0 < 0) = true := by simp [d3]
        have HK := Lib.hid (show SeekL key R x (h + 1) j from ⟨.inr hky, HQ.out.1.2⟩)
        clear hc0 hky
        generalize R.getD h 0 = y at *
        go_wp2_with (fail)
        generalize (iz + jz) / 2 = cc at *
        go_quiet ((go_at_call 235; exact CD _))
        clear CD c1 c2 e1 e4
        go_wp2
        go_roundw
        case rel => exact ⟨cc + 1, jz, h + 1, j, by go_num, rfl, by have := HQ.out; omega, HQ.out.2.2.1, by omega, HQ.out.2.2.2.2.2, HK.out, (HN.out _).1, (HN.out _).2⟩
        case measure => simp [intOf]; omega
      · have d3 : ¬ c0 < 0 := by rw [← hc0]; have := cmp3_ge hky; omega
        have d4 : decide (c0 < 0) = false := by simp; omega
        have HK := Lib.hid (show SeekL key R x i h from ⟨HQ.out.1.1, .inr hky⟩)
        clear hc0 hky
        generalize R.getD h 0 = y at *
        go_wp2_with (fail)
        generalize (iz + jz) / 2 = cc at *
        go_quiet ((go_at_call 235; exact CD _))
        clear CD c1 c2 e1 e4
        go_wp2
        go_roundw
        case rel => exact ⟨iz, cc, i, h, rfl, rfl, HQ.out.2.1, HQ.out.2.2.2.1, hih, by have := HQ.out; omega, HK.out, (HN.out _).1, (HN.out _).2⟩
        case measure => simp [intOf]; omega
    · obtain rfl : i = j := by omega
      obtain rfl : iz = jz := by omega
      have HF := Lib.hid (show ∀ wx, Ins1Rel w g n cap P R x S i wx → Sortd w g n cap key P (x :: R) S (.returned (.tuple #[])) wx from fun wx hx => by
        have hh := merged_front HS.out.1 hjl (x := x) (by rcases hsk.1 with h1 | h1; exact .inl h1; exact .inr (.of_lt h1)) (by
          rcases hsk.2 with h1 | h1
          · exact .inl h1
          · rcases Nat.lt_or_ge i R.length with h2 | h2
            · exact .inr (.of_not h1 (Int.le_of_lt (HS.out.2.1 _ (by simp [List.getD, h2]))))
            · exact .inl (by omega))
        exact ⟨rfl, _, hh.1, hh.2, hx.1, hx.2⟩)
      have HI := Lib.hid (And.intro hiz hjl)
      have HR := Lib.hid (show Ins1Rel w g n cap P R x S 0 wr from ⟨hr, hw⟩)
      have i0 : 0 < iz := by omega
      have i1 : iz ≤ n := by have := HL.out; omega
      clear hiz hjz hjl hsk hr hw hij hlt
      generalize wr = wo at *
      go_wp2_with (fail)
      go_loopw [13] (fun kv wr => ∃ (kz : Int) (e : Nat), kv = .int .i64 kz ∧ kz = P.length + e ∧ e ≤ i ∧ Ins1Rel w g n cap P R x S e wr) (fun kv _ => iz.toNat - (intOf kv).toNat)
      case atStart => exact ⟨a, 0, rfl, by have := HL.out; omega, Nat.zero_le _, HR.out⟩
      case round =>
        obtain ⟨kz, e, rfl, hkz, hei, hr, hw⟩ := hrel
        clear HR
        by_cases hlt : e < i
        · have hst := insRow_up (P := P) (M := R) (R := S) (x := x) (e := e) (by have := HI.out; omega)
          obtain ⟨p, hp⟩ : ∃ p, P.length + e = p := ⟨_, rfl⟩
          obtain ⟨q, hq⟩ : ∃ q, P.length + e + 1 = q := ⟨_, rfl⟩
          obtain ⟨y, hy⟩ : ∃ y, R.getD e 0 = y := ⟨_, rfl⟩
          rw [hq, hp, hy] at hst
          have pn : p < n := by have := HL.out; have := HI.out; omega
          have qn : q < n := by have := HL.out; have := HI.out; omega
          have c1 := hr.cell pn
          have c2 := hr.cell qn
          rw [hst.2.1] at c1
          rw [hst.2.2] at c2
          have f1 := hr.free p
          have f2 := hr.free q
          obtain ⟨u, c3⟩ := hr.still pn qn y
          have HN := Lib.hid (hr.swap p q y x)
          have HV := Lib.hid (hw.trans (wrote_swap wr g p q (.int .i64 y) (.int .i64 x)))
          have k1 : kz < iz - 1 := by have := HI.out; omega
          have k0 : 0 ≤ kz := by omega
          have e1 : kz.toNat = p := by omega
          have e2 : (kz + 1).toNat = q := by omega
          have e3 : IntKind.i64.wrap (kz + 1) = kz + 1 := by rw [IntKind.wrap_i64]; omega
          have e4 : 0 ≤ kz + 1 := by omega
          have e5 : kz < n := by omega
          have e6 : kz + 1 < n := by omega
          have HK := Lib.hid (And.intro hst (And.intro hkz hlt))
          clear hst hr hw hkz hei hlt hp hq hy
          go_wp2_with fail
          go_big_region
          clear c1 c2 c3 f1 f2 e1 e2 e3
          generalize ((wr.setCell ⟨g, p, none⟩ (.int .i64 y)).setCell ⟨g, q, none⟩ (.int .i64 x)).drew = w3 at *
          go_wp2
          go_roundw
          case rel => exact ⟨kz + 1, e + 1, by go_num, by have := HK.out; omega, by have := HK.out; omega, by rw [← HK.out.1.1]; exact HN.out, HV.out⟩
          case measure => simp [intOf]; omega
        · obtain rfl : e = i := by omega
          have k1 : ¬ kz < iz - 1 := by have := HI.out; omega
          have HE := Lib.hid (HF.out wr ⟨hr, hw⟩)
          clear hkz hei hr hw hlt
          go_wp2
          go_end0
          exact HE.out


set_option maxRecDepth 100000 in
set_option maxHeartbeats 16000000 in
theorem symRight (w : World) {g n cap : Nat} {key : Int → Int} {N : Int} {B : Nat} (P R S : List Int) (x : Int) (a m b : Int) (h : IRow w g n cap (P ++ R ++ [x] ++ S)) (hC : CmpAt key N B g w) (hs : Srt key R) (hlt : ∀ y ∈ R, y < x) (hl2 : 1 < R.length) (hok : ∀ y ∈ x :: R, 0 ≤ y ∧ y < N)
    (ha : a = P.length) (hm : m = P.length + R.length) (hb : b = P.length + R.length + 1) (hn : n ≤ 1000000) :
    Calls Tryz.prog 245 #[.slice (some ⟨g, 0, none⟩) n cap, .int .i64 a, .int .i64 m, .int .i64 b, .func (.func 235) #[] #[.pointer (some ⟨B, 0, none⟩)]] w (Sortd w g n cap key P (R ++ [x]) S) := by
  have hl : P.length + R.length + 1 + S.length = n := by have := h.len; simp at this; omega
  have hr0 : IRow w g n cap (insRow P R x R.length S) := by rw [insRow_end]; simpa using h
  have HC := Lib.hid hC
  have HL := Lib.hid (And.intro ha (And.intro hm (And.intro hb hl)))
  have HS := Lib.hid (And.intro hs (And.intro hlt hok))
  have HR := Lib.hid hr0
  have a0 : 0 ≤ a := by omega
  have am : a < m := by omega
  have mb : m < b := by omega
  have bn : b ≤ n := by omega
  have d1 : (m - a == 1) = false := beq_eq_false_iff_ne.2 (by omega)
  have d2 : (b - m == 1) = true := beq_iff_eq.2 (by omega)
  have mn : m < n := by omega
  clear h hr0 hC hs hlt hok ha hm hb hl hl2
  go_enter Tryz.func245, Tryz.ntmps245
  go_wp2_with (fail)
  go_loopw [14, 15] (fun iv jv wr => ∃ (iz jz : Int) (i j : Nat), iv = .int .i64 iz ∧ jv = .int .i64 jz ∧ iz = P.length + i ∧ jz = P.length + j ∧ i ≤ j ∧ j ≤ R.length ∧ SeekR key R x i j ∧ Ins1Rel w g n cap P R x S R.length wr) (fun iv jv _ => (intOf jv).toNat - (intOf iv).toNat)
  case atStart => exact ⟨a, m, 0, R.length, rfl, rfl, by have := HL.out; omega, by have := HL.out; omega, Nat.zero_le _, Nat.le_refl _, ⟨.inl rfl, .inl rfl⟩, HR.out, Wrote.refl _ _⟩
  case round =>
    obtain ⟨iz, jz, i, j, rfl, rfl, hiz, hjz, hij, hjl, hsk, hr, hw⟩ := hrel
    clear HR
    by_cases hlt : i < j
    · have z1 : iz < jz := by omega
      have z2 : iz ≤ (iz + jz) / 2 := by omega
      have z3 : (iz + jz) / 2 < jz := by omega
      obtain ⟨h, hh⟩ : ∃ h : Nat, (iz + jz) / 2 = P.length + h := ⟨((iz + jz) / 2).toNat - P.length, by omega⟩
      obtain ⟨p, hp⟩ : ∃ p, P.length + R.length = p := ⟨_, rfl⟩
      obtain ⟨q, hq⟩ : ∃ q, P.length + h = q := ⟨_, rfl⟩
      have c1 := hr.cell (i := p) (by have := HL.out; omega)
      have c2 := hr.cell (i := q) (by have := HL.out; omega)
      have ec1 : (insRow P R x R.length S).getD p 0 = x := by rw [insRow_end, ← hp, show P.length + R.length = (P ++ R).length by simp]; exact getD_head _ _ _
      have ec2 : (insRow P R x R.length S).getD q 0 = R.getD h 0 := by rw [insRow_end, List.append_assoc, ← hq, getD_at, getD_left _ _ _ (by omega)]
      rw [ec1] at c1
      rw [ec2] at c2
      have bx := HS.out.2.2 x (by simp)
      have bY := HS.out.2.2 (R.getD h 0) (List.mem_cons_of_mem _ (by simp [List.getD, show h < R.length by omega]))
      have CD := fun q => Calls.quiet_of (HC.out (wr.drewN q) x (R.getD h 0) (hw.drewN q) bx.1 bx.2 bY.1 bY.2)
      obtain ⟨c0, hc0⟩ : ∃ c, cmp3 (key x) (key (R.getD h 0)) = c := ⟨_, rfl⟩
      simp only [hc0] at CD
      have HN := Lib.hid (fun t => And.intro (hr.drewN t) (hw.drewN t))
      have HQ := Lib.hid (And.intro hsk (And.intro hiz (And.intro hjz (And.intro hh (And.intro hij hjl)))))
      have e1 : ((iz + jz) / 2).toNat = q := by omega
      have e2 : 0 ≤ (iz + jz) / 2 := by omega
      have e3 : (iz + jz) / 2 < n := by have := HL.out; omega
      have e4 : m.toNat = p := by have := HL.out; omega
      have hhj : h < j := by omega
      have hih : i ≤ h := by omega
      have i0 : 0 ≤ iz := by omega
      have jn : jz ≤ n := by have := HL.out; omega
      clear ec1 ec2 hsk hr hw bx bY hp hq hiz hjz hh hlt hij hjl
      by_cases hky : key x < key (R.getD h 0)
      · have d3 : c0 < 0 := by rw [← hc0]; exact cmp3_lt hky
        have d4 : decide (c0 < 0) = true := by simp [d3]
        have HK := Lib.hid (show SeekR key R x i h from ⟨HQ.out.1.1, .inr hky⟩)
        clear hc0 hky
        generalize R.getD h 0 = y at *
        go_wp2_with (fail)
        generalize (iz + jz) / 2 = cc at *
        go_quiet ((go_at_call 235; exact CD _))
        clear CD c1 c2 e1 e4
        go_wp2
        go_roundw
        case rel => exact ⟨iz, cc, i, h, rfl, rfl, HQ.out.2.1, HQ.out.2.2.2.1, hih, by have := HQ.out; omega, HK.out, (HN.out _).1, (HN.out _).2⟩
        case measure => simp [intOf]; omega
      · have d3 : ¬ c0 < 0 := by rw [← hc0]; have := cmp3_ge hky; omega
        have d4 : decide (c0 < 0) = false := by simp; omega
        have HK := Lib.hid (show SeekR key R x (h + 1) j from ⟨.inr hky, HQ.out.1.2⟩)
        clear hc0 hky
        generalize R.getD h 0 = y at *
        go_wp2_with (fail)
        generalize (iz + jz) / 2 = cc at *
        go_quiet ((go_at_call 235; exact CD _))
        clear CD c1 c2 e1 e4
        go_wp2
        go_roundw
        case rel => exact ⟨cc + 1, jz, h + 1, j, by go_num, rfl, by have := HQ.out; omega, HQ.out.2.2.1, by omega, HQ.out.2.2.2.2.2, HK.out, (HN.out _).1, (HN.out _).2⟩
        case measure => simp [intOf]; omega
    · obtain rfl : i = j := by omega
      obtain rfl : iz = jz := by omega
      have HF := Lib.hid (show ∀ wx, Ins1Rel w g n cap P R x S i wx → Sortd w g n cap key P (R ++ [x]) S (.returned (.tuple #[])) wx from fun wx hx => by
        have hh := merged_front HS.out.1 hjl (x := x) (by
          rcases hsk.1 with h1 | h1
          · exact .inl h1
          · rcases Nat.eq_zero_or_pos i with h2 | h2
            · exact .inl h2
            · exact .inr (.of_not h1 (Int.le_of_lt (HS.out.2.1 _ (by simp [List.getD, show i - 1 < R.length by omega]))))) (by rcases hsk.2 with h1 | h1; exact .inl h1; exact .inr (.of_lt h1))
        exact ⟨rfl, _, hh.1.trans (List.perm_append_singleton x R).symm, hh.2, hx.1, hx.2⟩)
      have HI := Lib.hid (And.intro hiz hjl)
      have HR := Lib.hid (show Ins1Rel w g n cap P R x S R.length wr from ⟨hr, hw⟩)
      have i0 : 0 ≤ iz := by omega
      have i1 : iz ≤ n := by have := HL.out; omega
      clear hiz hjz hjl hsk hr hw hij hlt
      generalize wr = wo at *
      go_wp2_with (fail)
      go_loopw [17] (fun kv wr => ∃ (kz : Int) (e : Nat), kv = .int .i64 kz ∧ kz = P.length + e ∧ i ≤ e ∧ e ≤ R.length ∧ Ins1Rel w g n cap P R x S e wr) (fun kv _ => (intOf kv).toNat)
      case atStart => exact ⟨m, R.length, rfl, by have := HL.out; omega, by have := HI.out; omega, Nat.le_refl _, HR.out⟩
      case round =>
        obtain ⟨kz, e1', rfl, hkz, hei, her, hr, hw⟩ := hrel
        clear HR
        by_cases hlt : i < e1'
        · obtain ⟨e, rfl⟩ : ∃ e, e1' = e + 1 := ⟨e1' - 1, by omega⟩
          have hst := insRow_step (P := P) (M := R) (R := S) (x := x) (e := e) (by omega)
          obtain ⟨p, hp⟩ : ∃ p, P.length + e = p := ⟨_, rfl⟩
          obtain ⟨q, hq⟩ : ∃ q, P.length + e + 1 = q := ⟨_, rfl⟩
          obtain ⟨y, hy⟩ : ∃ y, R.getD e 0 = y := ⟨_, rfl⟩
          rw [hq, hp, hy] at hst
          have pn : p < n := by have := HL.out; have := HI.out; omega
          have qn : q < n := by have := HL.out; have := HI.out; omega
          have c1 := hr.cell qn
          have c2 := hr.cell pn
          rw [hst.2.2] at c1
          rw [hst.2.1] at c2
          have f1 := hr.free p
          have f2 := hr.free q
          obtain ⟨u, c3⟩ := hr.still qn pn y
          have HN := Lib.hid (hr.swap q p y x)
          have HV := Lib.hid (hw.trans (wrote_swap wr g q p (.int .i64 y) (.int .i64 x)))
          have k1 : iz < kz := by have := HI.out; omega
          have k0 : 0 ≤ kz - 1 := by omega
          have k2 : 0 ≤ kz := by omega
          have e1 : kz.toNat = q := by omega
          have e2 : (kz - 1).toNat = p := by omega
          have e3 : IntKind.i64.wrap (kz - 1) = kz - 1 := by rw [IntKind.wrap_i64]; omega
          have e5 : kz < n := by omega
          have e6 : kz - 1 < n := by omega
          have HK := Lib.hid (And.intro hst (And.intro hkz (And.intro hlt her)))
          clear hst hr hw hkz hei hlt hp hq hy her
          go_wp2_with fail
          go_big_region
          clear c1 c2 c3 f1 f2 e1 e2 e3
          generalize ((wr.setCell ⟨g, q, none⟩ (.int .i64 y)).setCell ⟨g, p, none⟩ (.int .i64 x)).drew = w3 at *
          go_wp2
          go_roundw
          case rel => exact ⟨kz - 1, e, by go_num, by have := HK.out; omega, by have := HK.out; omega, by have := HK.out; omega, by rw [← HK.out.1.1]; exact HN.out, HV.out⟩
          case measure => simp [intOf]; omega
        · obtain rfl : e1' = i := by omega
          have k1 : ¬ iz < kz := by have := HI.out; omega
          have HE := Lib.hid (HF.out wr ⟨hr, hw⟩)
          clear hkz hei hr hw hlt her
          go_wp2
          go_end0
          exact HE.out

end Go.Proofs.YtikaoikladbdpaaGreat
namespace Go.Proofs.YtikaoikladbdpaaGreat
open Go.RowKit

theorem symAll {g n cap : Nat} (key : Int → Int) (N : Int) (B : Nat) (hn : n ≤ 1000000) : ∀ K, SymSaid g n cap key N B K := by
  intro K
  induction K with
  | zero => intro w P L R S a m b hK; omega
  | succ K ih =>
    intro w P L R S a m b hK h hr hC ha hm hb
    by_cases h1 : 1 < L.length
    · by_cases h2 : 1 < R.length
      · exact symMain ih w P L R S a m b (by omega) h hr hC h1 h2 ha hm hb hn
      · obtain ⟨y, rfl⟩ := List.length_eq_one_iff.1 (show R.length = 1 by have := h.r0; omega)
        exact symRight w P L S y a m b hr hC h.ls (fun x hx => h.lt x hx y (by simp)) h1 (fun x hx => h.ok x (by simp at hx ⊢; rcases hx with h3 | h3; exact .inr h3; exact .inl h3)) ha hm (by simpa using hb) hn
    · obtain ⟨x, rfl⟩ := List.length_eq_one_iff.1 (show L.length = 1 by have := h.l0; omega)
      exact symLeft w P R S x a m b hr hC h.rs (fun y hy => h.lt x (by simp) y hy) (fun y hy => h.ok y (by simpa using hy)) ha (by simpa using hm) (by simpa using hb) hn

theorem symMerge {g n cap : Nat} {key : Int → Int} {N : Int} {B : Nat} (w : World) (P L R S : List Int) (a m b : Int) (h : TwoOk key N L R) (hr : IRow w g n cap (P ++ L ++ R ++ S)) (hC : CmpAt key N B g w) (ha : a = P.length) (hm : m = P.length + L.length) (hb : b = P.length + L.length + R.length) (hn : n ≤ 1000000) :
    Calls Tryz.prog 245 #[.slice (some ⟨g, 0, none⟩) n cap, .int .i64 a, .int .i64 m, .int .i64 b, .func (.func 235) #[] #[.pointer (some ⟨B, 0, none⟩)]] w (Sortd w g n cap key P (L ++ R) S) :=
  symAll key N B hn (L.length + R.length + 1) w P L R S a m b (by omega) h hr hC ha hm hb

end Go.Proofs.YtikaoikladbdpaaGreat
namespace Go.Proofs.YtikaoikladbdpaaGreat
open Go.RowKit

def Stab1 (key : Int → Int) (z d : List Int) (k : Nat) : Prop := d.length = z.length ∧ (∀ i, i < k → BlkOk key 20 i z d) ∧ d.drop (20 * k) = z.drop (20 * k)
def Stab2 (key : Int → Int) (s : Nat) (z d : List Int) (k : Nat) : Prop := d.length = z.length ∧ (∀ i, i < k → BlkOk key (2 * s) i z d) ∧ ∀ i, 2 * k ≤ i → BlkOk key s i z d

theorem blkOk_none {key : Int → Int} {s i : Nat} {z d : List Int} (hl : d.length = z.length) (h : z.length ≤ s * i) : BlkOk key s i z d := by
  unfold BlkOk
  rw [blk_none (by omega), blk_none h]
  exact ⟨List.Pairwise.nil, List.Perm.refl _⟩

theorem stab1_start (key : Int → Int) (z : List Int) : Stab1 key z z 0 := ⟨rfl, fun i hi => by omega, rfl⟩
theorem stab1_next {key : Int → Int} {z d M : List Int} {k : Nat} (h : Stab1 key z d k) (hk : 20 * k + 20 ≤ z.length) (hp : M.Perm ((d.drop (20 * k)).take 20)) (hs : Srt key M) : Stab1 key z (d.take (20 * k) ++ M ++ d.drop (20 * k + 20)) (k + 1) := by
  obtain ⟨h1, h2, h3⟩ := h
  have hM : M.length = 20 := by rw [hp.length_eq]; simp; omega
  have hT : (d.take (20 * k)).length = 20 * k := by simp; omega
  refine ⟨by simp; omega, fun i hi => ?_, ?_⟩
  · rcases Nat.lt_or_ge i k with h4 | h4
    · obtain ⟨a1, a2⟩ := h2 i h4
      have e : blk 20 i (d.take (20 * k) ++ M ++ d.drop (20 * k + 20)) = blk 20 i d := by
        rw [List.append_assoc, blk_ahead (a := 20 * k) hT.symm (by omega)]
        conv => rhs; rw [← List.take_append_drop (20 * k) d]
        rw [blk_ahead (a := 20 * k) hT.symm (by omega)]
      unfold BlkOk
      rw [e]
      exact ⟨a1, a2⟩
    · obtain rfl : i = k := by omega
      unfold BlkOk
      rw [blk_here hT (.inl hM)]
      refine ⟨hs, ?_⟩
      rw [h3] at hp
      exact hp
  · rw [show 20 * (k + 1) = (d.take (20 * k) ++ M).length by simp; omega, List.drop_left]
    have : d.drop (20 * k + 20) = z.drop (20 * k + 20) := by rw [← List.drop_drop, ← List.drop_drop, h3]
    rw [this, show (d.take (20 * k) ++ M).length = 20 * k + 20 by simp; omega]
theorem stab1_end {key : Int → Int} {z d M : List Int} {k : Nat} (h : Stab1 key z d k) (hk : z.length < 20 * k + 20) (hk0 : 20 * k ≤ z.length) (hp : M.Perm (d.drop (20 * k))) (hs : Srt key M) : Stab2 key 20 z (d.take (20 * k) ++ M) 0 := by
  obtain ⟨h1, h2, h3⟩ := h
  have hM : M.length = d.length - 20 * k := by rw [hp.length_eq]; simp
  have hT : (d.take (20 * k)).length = 20 * k := by simp; omega
  have hl : (d.take (20 * k) ++ M).length = z.length := by simp; omega
  refine ⟨hl, fun i hi => by omega, fun i _ => ?_⟩
  rcases Nat.lt_trichotomy i k with h4 | h4 | h4
  · obtain ⟨a1, a2⟩ := h2 i h4
    have e : blk 20 i (d.take (20 * k) ++ M) = blk 20 i d := by
      rw [blk_ahead (a := 20 * k) hT.symm (by omega)]
      conv => rhs; rw [← List.take_append_drop (20 * k) d]
      rw [blk_ahead (a := 20 * k) hT.symm (by omega)]
    unfold BlkOk
    rw [e]
    exact ⟨a1, a2⟩
  · subst h4
    have e : blk 20 i (d.take (20 * i) ++ M) = M := by
      have := blk_here (bs := 20) (i := i) (p := d.take (20 * i)) (m := M) (s := []) hT (.inr ⟨by omega, rfl⟩)
      simpa using this
    unfold BlkOk
    rw [e]
    refine ⟨hs, ?_⟩
    rw [h3] at hp
    unfold blk
    rw [List.take_of_length_le (by simp; omega)]
    exact hp
  · exact blkOk_none hl (by
      have : 20 * (k + 1) ≤ 20 * i := Nat.mul_le_mul_left _ (by omega)
      omega)

theorem stab2_next {key : Int → Int} {s : Nat} {z d M : List Int} {k b : Nat} (h : Stab2 key s z d k) (hk : 2 * s * k ≤ z.length) (hb : b = min (2 * s * k + 2 * s) z.length) (hp : M.Perm (blk s (2 * k) d ++ blk s (2 * k + 1) d)) (hs : Srt key M) :
    Stab2 key s z (d.take (2 * s * k) ++ M ++ d.drop b) (k + 1) := by
  obtain ⟨h1, h2, h3⟩ := h
  have p1 := (h3 (2 * k) (Nat.le_refl _)).2
  have p2 := (h3 (2 * k + 1) (by omega)).2
  have hM : M.length = (blk (2 * s) k d).length := by rw [hp.length_eq, blk_two]
  have hB : (blk (2 * s) k d).length = b - 2 * s * k := by unfold blk; simp; omega
  have hT : (d.take (2 * s * k)).length = 2 * s * k := by simp; omega
  have hl : (d.take (2 * s * k) ++ M ++ d.drop b).length = z.length := by simp; omega
  have e0 : 2 * s * k + 2 * s = 2 * s * (k + 1) := by rw [Nat.mul_add, Nat.mul_one]
  refine ⟨hl, fun i hi => ?_, fun i hi => ?_⟩
  · rcases Nat.lt_or_ge i k with h4 | h4
    · have hle : 2 * s * i + 2 * s ≤ 2 * s * k := by
        have := Nat.mul_le_mul_left (2 * s) (show i + 1 ≤ k by omega)
        rw [Nat.mul_add, Nat.mul_one] at this
        exact this
      obtain ⟨a1, a2⟩ := h2 i h4
      have e : blk (2 * s) i (d.take (2 * s * k) ++ M ++ d.drop b) = blk (2 * s) i d := by
        rw [List.append_assoc, blk_ahead (a := 2 * s * k) hT.symm hle]
        conv => rhs; rw [← List.take_append_drop (2 * s * k) d]
        rw [blk_ahead (a := 2 * s * k) hT.symm hle]
      unfold BlkOk
      rw [e]
      exact ⟨a1, a2⟩
    · obtain rfl : i = k := by omega
      unfold BlkOk
      have hm : M.length = 2 * s ∨ (M.length ≤ 2 * s ∧ d.drop b = []) := by
        rcases Nat.lt_or_ge z.length (2 * s * i + 2 * s) with h5 | h5
        · right; exact ⟨by omega, List.drop_eq_nil_of_le (by omega)⟩
        · left; omega
      rw [blk_here hT hm]
      refine ⟨hs, hp.trans ?_⟩
      rw [blk_two]
      exact p1.append p2
  · obtain ⟨a1, a2⟩ := h3 i (by omega)
    rcases Nat.lt_or_ge z.length (2 * s * k + 2 * s) with h5 | h5
    · refine blkOk_none hl ?_
      have : s * (2 * (k + 1)) ≤ s * i := Nat.mul_le_mul_left _ hi
      have e : s * (2 * (k + 1)) = 2 * s * (k + 1) := by rw [← Nat.mul_assoc, Nat.mul_comm s 2]
      omega
    · have e : blk s i (d.take (2 * s * k) ++ M ++ d.drop b) = blk s i d := by
        have hb' : b = 2 * s * k + 2 * s := by omega
        have hle : (d.take (2 * s * k) ++ M).length ≤ s * i := by
          have : s * (2 * (k + 1)) ≤ s * i := Nat.mul_le_mul_left _ hi
          have e : s * (2 * (k + 1)) = 2 * s * (k + 1) := by rw [← Nat.mul_assoc, Nat.mul_comm s 2]
          simp
          omega
        conv => rhs; rw [← List.take_append_drop b d]
        exact blk_behind (by simp; omega) hle
      unfold BlkOk
      rw [e]
      exact ⟨a1, a2⟩
theorem stab2_done {key : Int → Int} {s : Nat} {z d : List Int} {k : Nat} (h : Stab2 key s z d k) (hk : z.length ≤ 2 * s * k + s) : Stab2 key (2 * s) z d 0 := by
  obtain ⟨h1, h2, h3⟩ := h
  refine ⟨h1, fun i hi => by omega, fun i _ => ?_⟩
  rcases Nat.lt_or_ge i k with h4 | h4
  · exact h2 i h4
  · have e1 := h3 (2 * i) (by omega)
    unfold BlkOk
    have hn : ∀ l : List Int, l.length = z.length → blk s (2 * i + 1) l = [] := fun l hl => blk_none (by
      have : 2 * s * k ≤ 2 * s * i := Nat.mul_le_mul_left _ h4
      have e : s * (2 * i + 1) = 2 * s * i + s := by rw [Nat.mul_add, Nat.mul_one, ← Nat.mul_assoc, Nat.mul_comm s 2]
      omega)
    rw [blk_two, blk_two, hn d h1, hn z rfl, List.append_nil, List.append_nil]
    exact e1
theorem stab2_end {key : Int → Int} {s : Nat} {z d : List Int} (h : Stab2 key s z d 0) (hs : z.length ≤ s) : d.Perm z ∧ Srt key d := by
  obtain ⟨h1, _, h3⟩ := h
  obtain ⟨a1, a2⟩ := h3 0 (by omega)
  rw [blk_all (by omega)] at a1 a2
  rw [blk_all hs] at a2
  exact ⟨a2, a1⟩

theorem stab2_two {key : Int → Int} {s : Nat} {z d : List Int} {k : Nat} {N : Int} (h : Stab2 key s z d k) (hz : Rises N z) (hs : 0 < s) (hk : 2 * s * k + s < z.length) : TwoOk key N (blk s (2 * k) d) (blk s (2 * k + 1) d) := by
  obtain ⟨h1, _, h3⟩ := h
  obtain ⟨a1, a2⟩ := h3 (2 * k) (Nat.le_refl _)
  obtain ⟨b1, b2⟩ := h3 (2 * k + 1) (by omega)
  have e : s * (2 * k + 1) = 2 * s * k + s := by rw [Nat.mul_add, Nat.mul_one, ← Nat.mul_assoc, Nat.mul_comm s 2]
  have e' : s * (2 * k) = 2 * s * k := by rw [← Nat.mul_assoc, Nat.mul_comm s 2]
  refine ⟨by unfold blk; simp; omega, by unfold blk; simp; omega, a1, b1, fun x hx y hy => blk_rise hz.up x (a2.mem_iff.1 hx) y (b2.mem_iff.1 hy), fun x hx => hz.ok x ?_⟩
  rcases List.mem_append.1 hx with h4 | h4
  · exact List.mem_of_mem_drop (List.mem_of_mem_take (a2.mem_iff.1 h4))
  · exact List.mem_of_mem_drop (List.mem_of_mem_take (b2.mem_iff.1 h4))

theorem two_parts {s k b : Nat} {d : List Int} (hb : b = min (2 * s * k + 2 * s) d.length) (_ : 2 * s * k ≤ d.length) : d = d.take (2 * s * k) ++ blk s (2 * k) d ++ blk s (2 * k + 1) d ++ d.drop b := by
  rw [List.append_assoc (d.take _), ← blk_two]
  unfold blk
  have e : (d.drop (2 * s * k)).take (2 * s) ++ d.drop b = d.drop (2 * s * k) := by
    rcases Nat.lt_or_ge d.length (2 * s * k + 2 * s) with h | h
    · rw [List.take_of_length_le (by simp; omega), List.drop_eq_nil_of_le (show d.length ≤ b by omega), List.append_nil]
    · have : d.drop b = (d.drop (2 * s * k)).drop (2 * s) := by rw [List.drop_drop]; congr 1; omega
      rw [this, List.take_append_drop]
  rw [List.append_assoc, e, List.take_append_drop]

end Go.Proofs.YtikaoikladbdpaaGreat
