/-
  slices.SortStableFunc sorts a row of ints that rises, by keys, and keeps the order of those of one key. Conditions: a row of one's own; a comparison as CmpAt says. parts and Order of package sorted tell the order of operations: as addsL, othersL and ordL say. Conditions: operations that lie in memory, at most a thousand. What Apply and Plain of package sorted tell, and leave: as one by one by the order. Conditions: a list as SkO says, a coin as Coin says, beside one another; operations that lie in memory, beside both, at most a thousand. What Apply of package sorted tells, and leaves: as one by one by the order. Conditions: a list as SkO says, a coin as Coin says, beside one another; operations that lie in memory, beside both, at most a thousand. What the holders of package object do in a batch: as what they embed. Conditions: a stack, a deque, a list as their own texts say; operations that lie in memory, beside it.
-/
import Derived.Test.YtikaoikladbdpaaGreatG1816
import Derived.Test.YtikaoikladbdpaaGreatG0816
import Derived.Test.YtikaoikladbdpaaGreatQDo11m
import Derived.Test.YtikaoikladbdpaaGreatG1516
import Derived.Test.YtikaoikladbdpaaGreatG1616
namespace Go.Proofs.YtikaoikladbdpaaGreat
open Go.RowKit

def SortedRow (w : World) (g n cap : Nat) (key : Int → Int) (z : List Int) (e : Ending) (w' : World) : Prop :=
  e = .returned (.tuple #[]) ∧ ∃ M : List Int, M.Perm z ∧ Srt key M ∧ IRow w' g n cap M ∧ Wrote (At1 g) w w'

theorem Rises.sub {N : Int} {X Y : List Int} (h : Rises N X) (s : Y.Sublist X) : Rises N Y := ⟨List.Pairwise.sublist s h.up, fun x hx => h.ok x (s.subset hx)⟩

set_option maxRecDepth 100000 in
set_option maxHeartbeats 16000000 in
theorem stableAny (w : World) {g n cap : Nat} {key : Int → Int} {N : Int} {B : Nat} (z : List Int) (h : IRow w g n cap z) (hC : CmpAt key N B g w) (hz : Rises N z) (hn : n ≤ 1000000) :
    Calls Tryz.prog 242 #[.slice (some ⟨g, 0, none⟩) n cap, .int .i64 n, .func (.func 235) #[] #[.pointer (some ⟨B, 0, none⟩)]] w (SortedRow w g n cap key z) := by
  have hl := h.len
  have HC := Lib.hid hC
  have HZ := Lib.hid hz
  have HL := Lib.hid hl
  have HS := Lib.hid h
  clear h hC hz hl
  go_enter Tryz.func242, Tryz.ntmps242
  go_wp2_with (fail)
  go_loopw [7, 8] (fun a b wr => ∃ (az bz : Int) (k : Nat) (d : List Int), a = .int .i64 az ∧ b = .int .i64 bz ∧ az = 20 * k ∧ bz = 20 * k + 20 ∧ 20 * k ≤ n ∧ Stab1 key z d k ∧ IRow wr g n cap d ∧ Wrote (At1 g) w wr) (fun a _ _ => n + 1 - (intOf a).toNat)
  case atStart => exact ⟨0, 20, 0, z, rfl, rfl, rfl, rfl, Nat.zero_le _, stab1_start _ _, HS.out, Wrote.refl _ _⟩
  case round =>
    obtain ⟨az, bz, k, d, rfl, rfl, haz, hbz, hkn, hd, hr, hw⟩ := hrel
    clear HS
    by_cases hlt : 20 * k + 20 ≤ n
    · have hdl : d.length = n := hr.len
      have e : d = d.take (20 * k) ++ (d.drop (20 * k)).take 20 ++ d.drop (20 * k + 20) := by
        rw [List.append_assoc, ← List.drop_drop, List.take_append_drop, List.take_append_drop]
      have C := insSort wr g n cap key N B (d.take (20 * k)) ((d.drop (20 * k)).take 20) (d.drop (20 * k + 20)) az bz (by rw [← e]; exact hr) (HC.out.later hw) (by rw [hd.2.2]; exact HZ.out.sub ((List.take_sublist _ _).trans (List.drop_sublist _ _))) (by simp; omega) (by simp; omega) hn
      have HCC := Lib.hid C
      have HK := Lib.hid (And.intro haz (And.intro hbz hd))
      have HW := Lib.hid hw
      have z1 : bz ≤ n := by omega
      have z0 : 0 ≤ bz := by omega
      have z2 : 0 ≤ az := by omega
      clear C haz hbz hd hr hw e hdl
      go_wp2_with (fail)
      refine HCC.out.mono ?_
      rintro e w2 ⟨rfl, M, p, s, r, h2⟩
      have HR := Lib.hid (And.intro (stab1_next HK.out.2.2 (by rw [HL.out]; exact hlt) p s) (And.intro r (HW.out.trans h2)))
      clear p s r h2 HCC HW
      go_wp2
      go_roundw
      case rel => exact ⟨bz, bz + 20, k + 1, _, rfl, by go_num, by have := HK.out; omega, by have := HK.out; omega, by omega, HR.out.1, HR.out.2.1, HR.out.2.2⟩
      case measure => have := HK.out; simp [intOf]; omega
    · have hdl : d.length = n := hr.len
      have e : d = d.take (20 * k) ++ d.drop (20 * k) ++ [] := by rw [List.append_nil, List.take_append_drop]
      have C := insSort wr g n cap key N B (d.take (20 * k)) (d.drop (20 * k)) [] az n (by rw [← e]; exact hr) (HC.out.later hw) (by rw [hd.2.2]; exact HZ.out.sub (List.drop_sublist _ _)) (by simp; omega) (by simp; omega) hn
      have HCC := Lib.hid C
      have HK := Lib.hid (And.intro haz (And.intro hbz hd))
      have HW := Lib.hid hw
      have z1 : ¬ bz ≤ n := by omega
      have z0 : 0 ≤ bz := by omega
      have z2 : 0 ≤ az := by omega
      clear C haz hbz hd hr hw e hdl
      go_wp2_with (fail)
      refine HCC.out.mono ?_
      rintro e w2 ⟨rfl, M, p, s, r, h2⟩
      have HR := Lib.hid (And.intro (stab1_end HK.out.2.2 (by rw [HL.out]; omega) (by rw [HL.out]; exact hkn) p s) (And.intro (show IRow w2 g n cap (d.take (20 * k) ++ M) by simpa using r) (HW.out.trans h2)))
      clear p s r h2 HCC HW HK z1 z0 z2 hlt hkn
      generalize d.take (20 * k) ++ M = d at *
      clear k
      generalize wr = wo at *
      go_wp2_with (fail)
      go_loopw [6] (fun b wr => ∃ (sz : Int) (s : Nat) (d : List Int), b = .int .i64 sz ∧ sz = s ∧ 0 < s ∧ s ≤ 2000020 ∧ Stab2 key s z d 0 ∧ IRow wr g n cap d ∧ Wrote (At1 g) w wr) (fun b _ => n - (intOf b).toNat)
      case atStart => exact ⟨20, 20, _, rfl, rfl, by omega, by omega, HR.out.1, HR.out.2.1, HR.out.2.2⟩
      case round =>
        obtain ⟨sz, s, d, rfl, hsz, hs0, hs1, hd, hr, hw⟩ := hrel
        clear HR
        by_cases hlt : s < n
        · have k1 : sz < n := by omega
          have k0 : 0 < sz := by omega
          have HR := Lib.hid (And.intro hd (And.intro hr hw))
          have HK := Lib.hid hsz
          clear hd hr hw hsz
          generalize wr = wq at *
          go_wp2_with (fail)
          go_loopw [7, 8] (fun a b wr => ∃ (az bz : Int) (k A : Nat) (d : List Int), a = .int .i64 az ∧ b = .int .i64 bz ∧ az = A ∧ bz = A + 2 * s ∧ A = 2 * s * k ∧ A ≤ n ∧ Stab2 key s z d k ∧ IRow wr g n cap d ∧ Wrote (At1 g) w wr) (fun a _ _ => n + 1 - (intOf a).toNat)
          case atStart => exact ⟨0, 2 * sz, 0, 0, d, rfl, by go_num, rfl, by have := HK.out; omega, by simp, Nat.zero_le _, HR.out.1, HR.out.2.1, HR.out.2.2⟩
          case round =>
            obtain ⟨az, bz, k, A, d, rfl, rfl, haz, hbz, hA, hAn, hd, hr, hw⟩ := hrel
            clear HR
            have hdl : d.length = n := hr.len
            by_cases hle : A + 2 * s ≤ n
            · have hb : A + 2 * s = min (2 * s * k + 2 * s) d.length := by omega
              have e := two_parts hb (by omega)
              have l1 : (d.take (2 * s * k)).length = A := by simp; omega
              have es : s * (2 * k) = A := by rw [hA, ← Nat.mul_assoc, Nat.mul_comm s 2]
              have es2 : s * (2 * k + 1) = A + s := by rw [Nat.mul_add, Nat.mul_one, es]
              have l2 : (blk s (2 * k) d).length = s := by unfold blk; rw [es]; simp; omega
              have l3 : (blk s (2 * k + 1) d).length = s := by unfold blk; rw [es2]; simp; omega
              have C := symMerge wr (d.take (2 * s * k)) (blk s (2 * k) d) (blk s (2 * k + 1) d) (d.drop (A + 2 * s)) az (az + sz) bz (stab2_two hd HZ.out hs0 (by rw [HL.out]; omega)) (by rw [← e]; exact hr) (HC.out.later hw) (by omega) (by have := HK.out; omega) (by omega) hn
              have HCC := Lib.hid C
              have HD := Lib.hid (And.intro haz (And.intro hbz (And.intro hA (And.intro hd hb))))
              have HW := Lib.hid hw
              have z1 : bz ≤ n := by omega
              have z2 : 0 ≤ az := by omega
              have z3 : az ≤ n := by omega
              have z4 : sz ≤ 2000020 := by have := HK.out; omega
              have z5 : 0 ≤ bz := by omega
              clear C haz hbz hA hd hr hw e l1 es es2 l2 l3 hb
              go_wp2_with (fail)
              refine HCC.out.mono ?_
              rintro e w2 ⟨rfl, M, p, q, r, h2⟩
              have HR := Lib.hid (And.intro (stab2_next HD.out.2.2.2.1 (by rw [HL.out]; have := HD.out; omega) (show A + 2 * s = min (2 * s * k + 2 * s) z.length by rw [HL.out]; have := HD.out; omega) p q) (And.intro r (HW.out.trans h2)))
              clear p q r h2 HCC HW
              go_wp2
              go_roundw
              case rel => exact ⟨bz, bz + 2 * sz, k + 1, A + 2 * s, _, rfl, by go_num, by have := HD.out; omega, by have := HD.out; have := HK.out; omega, by have := HD.out; rw [Nat.mul_add, Nat.mul_one]; omega, hle, HR.out.1, HR.out.2.1, HR.out.2.2⟩
              case measure => have := HD.out; have := HK.out; simp [intOf]; omega
            · by_cases hm : A + s < n
              · have hb : n = min (2 * s * k + 2 * s) d.length := by omega
                have e := two_parts hb (by omega)
                have l1 : (d.take (2 * s * k)).length = A := by simp; omega
                have es : s * (2 * k) = A := by rw [hA, ← Nat.mul_assoc, Nat.mul_comm s 2]
                have es2 : s * (2 * k + 1) = A + s := by rw [Nat.mul_add, Nat.mul_one, es]
                have l2 : (blk s (2 * k) d).length = s := by unfold blk; rw [es]; simp; omega
                have l3 : (blk s (2 * k + 1) d).length = n - (A + s) := by unfold blk; rw [es2]; simp; omega
                have C := symMerge wr (d.take (2 * s * k)) (blk s (2 * k) d) (blk s (2 * k + 1) d) (d.drop n) az (az + sz) n (stab2_two hd HZ.out hs0 (by rw [HL.out]; omega)) (by rw [← e]; exact hr) (HC.out.later hw) (by omega) (by have := HK.out; omega) (by omega) hn
                have HCC := Lib.hid C
                have HD := Lib.hid (And.intro haz (And.intro hbz (And.intro hA (And.intro hd hb))))
                have HW := Lib.hid hw
                have z1 : ¬ bz ≤ n := by omega
                have z2 : 0 ≤ az := by omega
                have z3 : az ≤ n := by omega
                have z4 : sz ≤ 2000020 := by have := HK.out; omega
                have z5 : az + sz < n := by have := HK.out; omega
                clear C haz hbz hA hd hr hw e l1 es es2 l2 l3 hb
                go_wp2_with (fail)
                refine HCC.out.mono ?_
                rintro e w2 ⟨rfl, M, p, q, r, h2⟩
                have HR := Lib.hid (And.intro (stab2_done (stab2_next HD.out.2.2.2.1 (by rw [HL.out]; have := HD.out; omega) (show n = min (2 * s * k + 2 * s) z.length by rw [HL.out]; have := HD.out; omega) p q) (by rw [HL.out, Nat.mul_add, Nat.mul_one]; have := HD.out; omega)) (And.intro r (HW.out.trans h2)))
                clear p q r h2 HCC HW
                go_wp2
                go_roundw
                case rel => exact ⟨sz * 2, 2 * s, _, by go_num, by have := HK.out; omega, by omega, by omega, HR.out.1, HR.out.2.1, HR.out.2.2⟩
                case measure => have := HK.out; simp [intOf]; omega
              · have HR := Lib.hid (And.intro (stab2_done hd (by rw [HL.out]; omega)) (And.intro hr hw))
                have z1 : ¬ bz ≤ n := by omega
                have z2 : 0 ≤ az := by omega
                have z3 : az ≤ n := by omega
                have z4 : sz ≤ 2000020 := by have := HK.out; omega
                have z5 : ¬ az + sz < n := by have := HK.out; omega
                clear haz hbz hA hd hr hw
                go_wp2
                go_roundw
                case rel => exact ⟨sz * 2, 2 * s, _, by go_num, by have := HK.out; omega, by omega, by omega, HR.out.1, HR.out.2.1, HR.out.2.2⟩
                case measure => have := HK.out; simp [intOf]; omega
        · have k1 : ¬ sz < n := by omega
          have he := stab2_end hd (by rw [HL.out]; omega)
          have HE := Lib.hid (show SortedRow w g n cap key z (.returned (.tuple #[])) wr from ⟨rfl, d, he.1, he.2, hr, hw⟩)
          clear he hd hr hw hsz
          go_wp2
          go_end0
          exact HE.out

set_option maxRecDepth 100000 in
set_option maxHeartbeats 4000000 in
theorem sortStable (w : World) {g n cap : Nat} {key : Int → Int} {N : Int} {B : Nat} (z : List Int) (h : IRow w g n cap z) (hC : CmpAt key N B g w) (hz : Rises N z) (hn : n ≤ 1000000) :
    Calls Tryz.prog 234 #[.slice (some ⟨g, 0, none⟩) n cap, .func (.func 235) #[] #[.pointer (some ⟨B, 0, none⟩)]] w (SortedRow w g n cap key z) := by
  have HC := Lib.hid (stableAny w z h hC hz hn)
  clear h hC hz
  go_enter Tryz.func234, Tryz.ntmps234
  go_wp2_with (fail)
  refine HC.out.mono ?_
  rintro e w2 ⟨rfl, M, p, s, r, h2⟩
  have HR := Lib.hid (show SortedRow w g n cap key z (.returned (.tuple #[])) w2 from ⟨rfl, M, p, s, r, h2⟩)
  clear p s r h2
  go_wp2
  go_end0
  exact HR.out

theorem insNil (w : World) (f : Value) (b : Int) (hb : b ≤ 1) :
    Calls Tryz.prog 244 #[.slice none 0 0, .int .i64 0, .int .i64 b, f] w fun e w' => e = .returned (.tuple #[]) ∧ w = w' := by
  have h1 : ¬ 1 < b := by omega
  go_enter Tryz.func244, Tryz.ntmps244
  go_wp2
  refine wp_loop_rounds 1 ?_
  rw [rounds_succ]
  go_wp2
  go_end0
  exact ⟨rfl, rfl⟩
theorem stableNil (w : World) (f : Value) :
    Calls Tryz.prog 242 #[.slice none 0 0, .int .i64 0, f] w fun e w' => e = .returned (.tuple #[]) ∧ w = w' := by
  go_enter Tryz.func242, Tryz.ntmps242
  go_wp2
  refine wp_loop_rounds 1 ?_
  rw [rounds_succ]
  go_wp2_with (fail)
  refine (insNil w f 0 (by omega)).mono ?_
  rintro e w' ⟨rfl, rfl⟩
  go_wp2
  refine wp_loop_rounds 1 ?_
  rw [rounds_succ]
  go_wp2
  go_end0
  exact ⟨rfl, rfl⟩
theorem sortNil (w : World) (f : Value) :
    Calls Tryz.prog 234 #[.slice none 0 0, f] w fun e w' => e = .returned (.tuple #[]) ∧ w = w' := by
  go_enter Tryz.func234, Tryz.ntmps234
  go_wp2_with (fail)
  refine (stableNil w f).mono ?_
  rintro e w' ⟨rfl, rfl⟩
  go_wp2
  go_end0
  exact ⟨rfl, rfl⟩

end Go.Proofs.YtikaoikladbdpaaGreat
namespace Go.Proofs.YtikaoikladbdpaaGreat
open Go.RowKit

def IntsNew (w : World) (zs : List Int) (e : Ending) (w' : World) : Prop :=
  ∃ ao cap, e = .returned (.slice ao zs.length cap) ∧ Reads .i64 w' ao zs.length zs ∧ zs.length ≤ cap ∧ (∀ a, ao = some a → w.heap.size ≤ a.block) ∧ Below w.heap.size w w'

structure Rows2 (w : World) (vb : Value) (va vo : Value) (za zo : List Int) (wr : World) : Prop where
  a : wr.ownsRow (w.heap.size + 1) 3 1 va za.length (za.map (Value.int .i64))
  o : wr.ownsRow (w.heap.size + 1) 3 1 vo zo.length (zo.map (Value.int .i64))
  ne : ∀ g, va.ownBlock = some g → vo.ownBlock ≠ some g
  b : Below w.heap.size w wr
  box : wr.heap[w.heap.size]? = some (.cells #[vb] 64 (0, 0))

section
variable {w wr w' : World} {vb va vo v' : Value} {za zo : List Int} {x : Int} {ob oc : Obj}
theorem Rows2.start (w : World) (vb : Value) : Rows2 w vb (.slice none 0 0) (.slice none 0 0) [] [] (w.alloc (.cells #[vb] 64)) :=
  ⟨World.ownsRow_nil _ _ _ _, World.ownsRow_nil _ _ _ _, (fun g h => by cases h), (Below.refl _ _).alloc (Nat.le_refl _) _, heap_alloc_new w _⟩
theorem Rows2.lt (h : Rows2 w vb va vo za zo wr) : w.heap.size + 1 ≤ wr.heap.size := lt_of_block h.box
theorem Rows2.alloc (h : Rows2 w vb va vo za zo wr) (o : Obj) : Rows2 w vb va vo za zo (wr.alloc o) :=
  ⟨h.a.alloc o, h.o.alloc o, h.ne, h.b.alloc h.b.size o, (Below.heap_alloc _ _ _ (by have := h.lt; omega)).trans h.box⟩
theorem Rows2.cell (h : Rows2 w vb va vo za zo wr) : wr.cell? ⟨w.heap.size, 0, none⟩ = some vb := by simp [World.cell?, h.box]
theorem Rows2.swap (h : Rows2 w vb va vo za zo wr) : Rows2 w vb vo va zo za wr := ⟨h.o, h.a, fun g h1 h2 => h.ne g h2 h1, h.b, h.box⟩
theorem Rows2.put (h : Rows2 w vb va vo za zo wr) (q : w'.ownsRow (w.heap.size + 1) 3 1 v' (za.length + 1) (za.map (Value.int .i64) ++ [.int .i64 x])) (g : wr.grownBy w' va.ownBlock) (l : ∀ g, v'.ownBlock = some g → va.ownBlock = some g ∨ wr.heap.size ≤ g) :
    Rows2 w vb v' vo (za ++ [x]) zo w' := by
  refine ⟨by simpa using q, h.o.kept g ?_, fun k hk ho => ?_, h.b.grown g h.b.size (fun k e => by have := (h.a.lt k e).1; omega), ?_⟩
  · cases hv : vo.ownBlock with
    | none => exact .inl rfl
    | some k => exact .inr (fun e => h.ne k e.symm hv)
  · rcases l k hk with h1 | h1
    · exact h.ne k h1 ho
    · have := (h.o.lt k ho).2; omega
  · rw [g.block w.heap.size (by have := h.lt; omega) (fun e => by have := (h.a.lt _ e.symm).1; omega)]
    exact h.box
end

theorem own_base {w : World} {base n g cap : Nat} {e : TypeId} {size : Nat} {xs : List Value} (h : w.ownsRow 0 e size (.slice (some ⟨g, 0, none⟩) n cap) n xs) (hb : base ≤ g) : w.ownsRow base e size (.slice (some ⟨g, 0, none⟩) n cap) n xs := by
  refine ⟨h.1, ?_⟩
  rcases h.2 with ⟨h', _⟩ | ⟨g', cap', cur, h', _, r⟩
  · simp at h'
  · have e1 := h'
    simp only [Value.slice.injEq, Option.some.injEq, Addr.mk.injEq, and_true, true_and] at e1
    obtain ⟨rfl, rfl⟩ := e1
    exact .inr ⟨g, cap, cur, rfl, hb, r⟩
theorem own_any {w : World} {base n g cap : Nat} {e : TypeId} {size : Nat} {xs : List Value} (h : w.ownsRow base e size (.slice (some ⟨g, 0, none⟩) n cap) n xs) : w.ownsRow 0 e size (.slice (some ⟨g, 0, none⟩) n cap) n xs := by
  refine ⟨h.1, ?_⟩
  rcases h.2 with ⟨h', _⟩ | ⟨g', cap', cur, h', _, r⟩
  · simp at h'
  · exact .inr ⟨g', cap', cur, h', Nat.zero_le _, r⟩

theorem rows2_sort {w wr : World} {ao : Option Addr} {n cap : Nat} {os : List (Int × Int)} {va vo : Value} {za zo : List Int} (ho : OpsAt w ao n os) (hr : Rows2 w (.slice ao n cap) va vo za zo wr) (hz : Rises n za) (hn : n ≤ 1000) (hl : za.length ≤ n) (hoff : ∀ a, ao = some a → 0 < n → a.block < w.heap.size) :
    Calls Tryz.prog 234 #[va, .func (.func 235) #[] #[.pointer (some ⟨wr.heap.size, 0, none⟩)]] (wr.alloc (.cells #[keyF w.heap.size] 287)) fun e w' => e = .returned (.tuple #[]) ∧ Rows2 w (.slice ao n cap) va vo (sortB (keyOf os) za) zo w' := by
  have hbox : (wr.alloc (.cells #[keyF w.heap.size] 287)).cell? ⟨wr.heap.size, 0, none⟩ = some (keyF w.heap.size) := by simp
  have hsz : (wr.alloc (.cells #[keyF w.heap.size] 287)).heap.size = wr.heap.size + 1 := by simp
  have hgl : ∀ g, va.ownBlock = some g → g < wr.heap.size := fun g e => (hr.a.lt g e).2
  have hr := hr.alloc (.cells #[keyF w.heap.size] 287)
  generalize wr.alloc (.cells #[keyF w.heap.size] 287) = w1 at *
  generalize wr.heap.size = B at *
  have hr' := hr
  obtain ⟨h1, h2, h3, h4, h5⟩ := hr'
  rcases h1.2 with ⟨rfl, h0⟩ | ⟨g, cp, cur, rfl, hb, _⟩
  · have hz0 : za = [] := List.eq_nil_of_length_eq_zero h0
    subst hz0
    exact (sortNil w1 _).mono fun e w' ⟨he, hw⟩ => ⟨he, hw ▸ hr⟩
  · have hgB := hgl g rfl
    have hC : CmpAt (keyOf os) n B g w1 := fun W a b hW a0 a1 b0 b1 => by
      refine closAny os W B w.heap.size ao n cap a b ?_ ?_ ?_ a0 a1 b0 b1
      · rw [hW.cell (p := ⟨B, 0, none⟩) (by simp; omega) (by simp only [At1]; omega)]
        exact hbox
      · rw [hW.cell (p := ⟨w.heap.size, 0, none⟩) (by have := hr.lt; simp; omega) (by simp only [At1]; omega)]
        exact hr.cell
      · exact (ho.keep h4).off (fun a ha hg => by
          have : a.block < w.heap.size := hoff a ha (by omega)
          simp only [At1] at hg
          omega) hW
    refine (sortStable w1 (g := g) (n := za.length) (cap := cp) (key := keyOf os) (N := n) (B := B) za (own_any h1) hC hz (by omega)).mono ?_
    rintro e w' ⟨rfl, M, p, s, r, hw⟩
    obtain rfl := sortB_is p s
    have hl2 : (sortB (keyOf os) za).length = za.length := p.length_eq
    refine ⟨rfl, ⟨by rw [hl2]; exact own_base r hb, own_keep h2 fun k hk => hw.block k (h2.lt k hk).2 (fun e => h3 g rfl (by rw [← e]; exact hk)), h3, ?_, ?_⟩⟩
    · exact h4.trans (hw.below (by have := hr.lt; omega) (fun k e => by simp only [At1] at e; omega))
    · rw [hw.block w.heap.size (by have := hr.lt; omega) (by simp only [At1]; omega)]; exact h5

set_option maxRecDepth 100000 in
set_option maxHeartbeats 4000000 in
theorem sortByAny {w wr : World} {ao : Option Addr} {n cap : Nat} {os : List (Int × Int)} {va vo : Value} {za zo : List Int} (ho : OpsAt w ao n os) (hr : Rows2 w (.slice ao n cap) va vo za zo wr) (hz : Rises n za) (hn : n ≤ 1000) (hl : za.length ≤ n) (hoff : ∀ a, ao = some a → 0 < n → a.block < w.heap.size) :
    Calls Tryz.prog 224 #[va, keyF w.heap.size] wr fun e w' => e = .returned (.tuple #[]) ∧ Rows2 w (.slice ao n cap) va vo (sortB (keyOf os) za) zo w' := by
  have HC := Lib.hid (rows2_sort ho hr hz hn hl hoff)
  clear ho hr hz hn hl hoff
  unfold keyF at *
  go_enter Tryz.func224, Tryz.ntmps224
  go_wp2_with fail
  refine HC.out.mono ?_
  rintro e w2 ⟨rfl, r⟩
  have HR := Lib.hid r
  clear r HC
  go_wp2
  go_end0
  exact ⟨rfl, HR.out⟩

def PartsPost (w : World) (vb : Value) (os : List (Int × Int)) (e : Ending) (w' : World) : Prop :=
  ∃ va vo, e = .returned (.tuple #[va, vo]) ∧ Rows2 w vb va vo (addsL os) (othersL os) w'

set_option maxRecDepth 100000 in
set_option maxHeartbeats 8000000 in
theorem partsAny (w : World) (ao : Option Addr) (n cap : Nat) (os : List (Int × Int)) (ho : OpsAt w ao n os) (hn : n ≤ 1000) :
    Calls Tryz.prog 215 #[.slice ao n cap] w (PartsPost w (.slice ao n cap) os) := by
  obtain ⟨i0, hi, hz0, hz1, hz2⟩ := info_parts infoInt
  have HO := Lib.hid ho
  have HF := Lib.hid (show ∀ a, ao = some a → 0 < n → a.block < w.heap.size from fun a ha hp => by obtain ⟨b, off, e, l, _⟩ := ho.2 hp; rw [e] at ha; injection ha with ha; subst ha; exact l)
  clear ho
  have HS := Lib.hid (Rows2.start w (.slice ao n cap))
  go_enter Tryz.func215, Tryz.ntmps215
  go_wp2_with (fail)
  go_loopw [2, 3, 8] (fun va vo i wr => ∃ k : Nat, k ≤ n ∧ i = .int .i64 k ∧ Rows2 w (.slice ao n cap) va vo (addsOf 3 os k) (othersOf 3 os k) wr) (fun _ _ i _ => n - (intOf i).toNat)
  case atStart => exact ⟨0, Nat.zero_le _, rfl, HS.out⟩
  case round =>
    obtain ⟨k, hk, rfl, hr⟩ := hrel
    clear HS
    have hbl := both_length 3 os k
    by_cases hlt : k < n
    · obtain ⟨b, off, rfl, bl, hc⟩ := HO.out.2 (by omega)
      have y0 := (hr.b.cell (p := ⟨b, off + k * 2, none⟩) bl).trans (hc k hlt).1
      have y1 := (hr.b.cell (p := ⟨b, off + k * 2 + 1, none⟩) bl).trans (hc k hlt).2
      have i1 : (k : Int) < n := by omega
      have HR := Lib.hid hr
      clear hr hc
      obtain ⟨kd, hkd⟩ : ∃ x, (os.getD k (0, 0)).1 = x := ⟨_, rfl⟩
      obtain ⟨kv, hkv⟩ : ∃ x, (os.getD k (0, 0)).2 = x := ⟨_, rfl⟩
      rw [hkd] at y0
      rw [hkv] at y1
      have HKD := Lib.hid hkd
      clear hkd hkv
      go_upto_region 4 with (fail)
      generalize hW : wr.alloc (.cells #[.int .u8 kd, .int .i32 kv] 38) = W
      have x0 : W.cell? ⟨wr.heap.size, 0, none⟩ = some (.int .u8 kd) := by subst hW; go_simp
      have HRW := Lib.hid (show Rows2 w (.slice (some ⟨b, off, none⟩) n cap) u2 u3 (addsOf 3 os k) (othersOf 3 os k) W by subst hW; exact HR.out.alloc _)
      clear hW y0 y1
      have hb0 : (addsOf 3 os k).length ≤ 1000 := by omega
      have hb1 : (othersOf 3 os k).length ≤ 1000 := by omega
      clear hbl
      by_cases h1 : kd = 1
      · have HE := Lib.hid (adds_yes (obj := 3) (os := os) (k := k) (by simp only [isAdd, Int.toNat_natCast, HKD.out, h1]; rfl))
        subst h1
        go_wp2_with (at_builtin; refine wpList_append_later rfl (.tmp 16) (.tmp 18) 33 rfl (w.heap.size + 1) 3 i0 _ 1 8 Tryz.underlying33 hi hz0 hz1 hz2 rfl (by decide) _ _ _ rfl (HRW.out.a.alloc _) ⟨_, 0, none⟩ 1 1 [.int .i64 k] rfl rfl (by intro j u hu; cases j <;> simp at hu; subst hu; go_simp) (by intro u hu; simp at hu; subst hu; rfl) (by simp only [maxLen]; omega) (by omega) (Nat.le_trans HRW.out.lt (by simp)) ?_; intro v2 w2 q2 g2 l2; have HN := Lib.hid ((HRW.out.alloc _).put q2 g2 l2); clear q2 g2 l2)
        go_roundw
        case rel => exact ⟨k + 1, by omega, by go_num, by rw [HE.out.1, HE.out.2]; exact HN.out⟩
        case measure => simp [intOf]; omega
      · have HE := Lib.hid (adds_no (obj := 3) (os := os) (k := k) (by simp only [isAdd, Int.toNat_natCast, HKD.out]; simpa using h1))
        have d1 : (kd == 1) = false := by simpa using h1
        clear h1
        go_wp2_with (at_builtin; refine wpList_append_later rfl (.tmp 20) (.tmp 22) 33 rfl (w.heap.size + 1) 3 i0 _ 1 8 Tryz.underlying33 hi hz0 hz1 hz2 rfl (by decide) _ _ _ rfl (HRW.out.o.alloc _) ⟨_, 0, none⟩ 1 1 [.int .i64 k] rfl rfl (by intro j u hu; cases j <;> simp at hu; subst hu; go_simp) (by intro u hu; simp at hu; subst hu; rfl) (by simp only [maxLen]; omega) (by omega) (Nat.le_trans HRW.out.lt (by simp)) ?_; intro v2 w2 q2 g2 l2; have HN := Lib.hid (((HRW.out.alloc _).swap.put q2 g2 l2).swap); clear q2 g2 l2)
        go_roundw
        case rel => exact ⟨k + 1, by omega, by go_num, by rw [HE.out.1, HE.out.2]; exact HN.out⟩
        case measure => simp [intOf]; omega
    · obtain rfl : k = n := by omega
      have HL := Lib.hid HO.out.1
      have hb0 : (addsOf 3 os k).length ≤ k := by omega
      have C := sortByAny HO.out hr (adds_rise 3 os k) hn hb0 HF.out
      have HC := Lib.hid C
      clear C hr hbl hlt
      unfold keyF at HC
      go_wp2_with (fail)
      refine HC.out.mono ?_
      rintro e w2 ⟨rfl, hr⟩
      have HR := Lib.hid (show PartsPost w (.slice ao k cap) os (.returned (.tuple #[u2, u3])) w2 from ⟨_, _, rfl, by unfold addsL othersL; rw [HL.out]; exact hr⟩)
      clear hr HC
      go_wp2
      go_ret2
      exact HR.out

set_option maxRecDepth 100000 in
set_option maxHeartbeats 8000000 in
theorem orderAny (w : World) (ao : Option Addr) (n cap : Nat) (os : List (Int × Int)) (ho : OpsAt w ao n os) (hn : n ≤ 1000) :
    Calls Tryz.prog 222 #[.slice ao n cap] w (IntsNew w (ordL 3 os)) := by
  obtain ⟨i0, hi, hz0, hz1, hz2⟩ := info_parts infoInt
  have HC := Lib.hid (partsAny w ao n cap os ho hn)
  have HL := Lib.hid ho.1
  have hpl := parts_length os
  rw [ho.1] at hpl
  clear ho
  go_enter Tryz.func222, Tryz.ntmps222
  go_wp2_with (fail)
  refine HC.out.mono ?_
  rintro e w2 ⟨va, vo, rfl, hr⟩
  obtain ⟨ao2, cp2, e2, r2, _, _⟩ := reads_own hr.o
  subst e2
  have HR := Lib.hid hr
  have HR2 := Lib.hid r2
  clear hr r2 HC
  have hb0 : (addsL os).length ≤ n := by omega
  have hb1 : (othersL os).length ≤ n := by omega
  go_wp2_with (at_builtin; refine wpList_append_src _ rfl (.tmp 10) (.tmp 11) 33 rfl (w.heap.size + 1) 3 i0 _ 1 8 Tryz.underlying33 hi hz0 hz1 hz2 rfl (by decide) _ _ _ rfl HR.out.a ao2 _ cp2 ((othersL os).map (Value.int .i64)) rfl (by simp) (reads_src HR2.out) (ints_oneCell _ _) (by simp only [maxLen]; omega) (by omega) HR.out.lt ?_; intro v3 w3 q3 g3; have HQ := Lib.hid q3; have HG := Lib.hid g3; clear q3 g3)
  have hq := HQ.out
  rw [← List.map_append, ← List.length_append, ← ordL_parts] at hq
  obtain ⟨a3, c3, e3, r3, l3, b3⟩ := reads_own hq
  subst e3
  have HFin := Lib.hid (show IntsNew w (ordL 3 os) (.returned (.slice a3 (ordL 3 os).length c3)) w3 from ⟨a3, c3, rfl, r3, l3, fun a ha => by have := b3 a ha; omega, HR.out.b.grown HG.out HR.out.b.size (fun k e => by have := (HR.out.a.lt k e).1; omega)⟩)
  clear hq r3 l3 b3
  go_wp2
  go_ret
  exact HFin.out

end Go.Proofs.YtikaoikladbdpaaGreat
namespace Go.Proofs.YtikaoikladbdpaaGreat
open Go.RowKit Go.Lib

def SrtAt (w1 : World) (F G : Nat → Prop) (sp : Option Nat) (q : Nat) (m : Int) (b : Nat) (s : List It × List Bool) (rs : List (Int × Int)) (wr : World) : Prop :=
  ∃ F' G', SkO wr F' sp m s.1 ∧ Coin wr G' q s.2 ∧ Apart F' G' ∧ RRow wr b rs ∧ ¬ F' b ∧ ¬ G' b ∧ Wrote (fun g => F g ∨ G g ∨ g = b) w1 wr ∧ Later F F' w1 ∧ Later G G' w1

def SrtPost (w : World) (F G : Nat → Prop) (sp : Option Nat) (q : Nat) (m : Int) (s : List It × List Bool) (os : List (Int × Int)) (e : Ending) (w' : World) : Prop :=
  ∃ b F' G', e = .returned (.slice (some ⟨b, 0, none⟩) os.length os.length) ∧ RRow w' b (batT 3 m (vals s.1) os) ∧ w.heap.size ≤ b ∧ SkO w' F' sp m (batS m s os).1 ∧ Coin w' G' q (batS m s os).2 ∧ Apart F' G' ∧ ¬ F' b ∧ ¬ G' b ∧ Wrote (fun g => F g ∨ G g) w w' ∧ Later F F' w ∧ Later G G' w

section
variable {w w1 w2 wr : World} {F G F' G' F1 G1 : Nat → Prop} {sp : Option Nat} {p q b : Nat} {m : Int} {s s' : List It × List Bool} {rs : List (Int × Int)}

theorem SrtAt.start (h : SkO w1 F sp m s.1) (c : Coin w1 G q s.2) (ap : Apart F G) (r : RRow w1 b rs) (hF : ¬ F b) (hG : ¬ G b) : SrtAt w1 F G sp q m b s rs w1 :=
  ⟨F, G, h, c, ap, r, hF, hG, Wrote.refl _ _, Later.refl _ _, Later.refl _ _⟩

theorem SrtAt.put {i : Nat} {c x : Int} (r : RRow wr b rs) (hF : ¬ F' b) (hG : ¬ G' b) (hw : Wrote (fun g => F g ∨ G g ∨ g = b) w1 wr) (lF : Later F F' w1) (lG : Later G G' w1) (d : DidP F' G' sp q m s' wr w2) :
    RRow w2 b rs ∧ SrtAt w1 F G sp q m b s' (rs.set i (c, x)) ((w2.setCell ⟨b, i * 2, none⟩ (.int .u8 c)).setCell ⟨b, i * 2 + 1, none⟩ (.int .i32 x)) := by
  obtain ⟨F2, G2, h1, h2, h3, h4, h5, h6⟩ := d
  have r2 : RRow w2 b rs := (h4.block b r.lt (fun e => e.elim hF hG)).trans r
  have k1 : ¬ F2 b := Later.not h5 hF r.lt
  have k2 : ¬ G2 b := Later.not h6 hG r.lt
  have hw2 : Wrote (fun g => F g ∨ G g ∨ g = b) w1 w2 := hw.step (F' := fun g => F' g ∨ G' g) (fun g hg => by
    rcases hg with hg | hg
    · exact (lF g hg).imp .inl id
    · exact (lG g hg).imp (fun h => .inr (.inl h)) id) h4
  refine ⟨r2, F2, G2, h1.apart (wrote2 w2 b _ _ _ _) (fun g a e => k1 (e ▸ a)), h2.apart (wrote2 w2 b _ _ _ _) (fun g a e => k2 (e ▸ a)), h3, r2.set2 i c x, k1, k2, hw2.trans ((wrote2 w2 b _ _ _ _).into (fun g hg => .inr (.inr hg))), lF.trans h5 hw.size, lG.trans h6 hw.size⟩

theorem SrtAt.post {os : List (Int × Int)} {s0 : List It × List Bool} {F0 G0 : Nat → Prop} (h : SrtAt w1 F G sp q m b s rs wr) (hb : w.heap.size ≤ b) (hs : s = batS m s0 os) (hr : rs = batT 3 m (vals s0.1) os) (hw : Wrote (fun g => F0 g ∨ G0 g) w w1) (lF : Later F0 F w) (lG : Later G0 G w) :
    SrtPost w F0 G0 sp q m s0 os (.returned (.slice (some ⟨b, 0, none⟩) os.length os.length)) wr := by
  subst hs hr
  obtain ⟨F', G', h1, h2, h3, h4, h5, h6, h7, h8, h9⟩ := h
  refine ⟨b, F', G', rfl, h4, hb, h1, h2, h3, h5, h6, hw.step (F' := fun g => F g ∨ G g ∨ g = b) (fun g hg => ?_) h7, lF.trans h8 hw.size, lG.trans h9 hw.size⟩
  rcases hg with hg | hg | hg
  · exact (lF g hg).imp .inl id
  · exact (lG g hg).imp .inr id
  · subst hg; exact .inr hb
end

theorem ints_kept {w1 wr : World} {F : Nat → Prop} {al : Option Addr} {n : Nat} {L : List Int} (h : Reads .i64 w1 al n L) (hn : 0 < n → ∀ a, al = some a → ¬ F a.block) (hw : Wrote F w1 wr) : Reads .i64 wr al n L := by
  rcases Nat.eq_zero_or_pos n with h0 | h0
  · subst h0; exact ⟨h.1, fun h => by omega⟩
  · exact h.off (fun a ha hg => hn h0 a ha hg) hw
theorem ops_kept {w1 wr : World} {F : Nat → Prop} {ao : Option Addr} {n : Nat} {os : List (Int × Int)} (h : OpsAt w1 ao n os) (hn : 0 < n → Off F ao) (hw : Wrote F w1 wr) : OpsAt wr ao n os := by
  rcases Nat.eq_zero_or_pos n with h0 | h0
  · subst h0; exact ⟨h.1, fun h => by omega⟩
  · exact h.off (fun a ha hg => hn h0 a ha hg) hw

section
variable {w : World} {F G : Nat → Prop} {sp : Option Nat} {p q : Nat} {m : Int} {l : List It} {bs : List Bool}

set_option maxRecDepth 100000 in
set_option maxHeartbeats 16000000 in
theorem plainAny (h : SkO w F sp m l) (c : Coin w G q bs) (ap : Apart F G) (ao : Option Addr) (n cap : Nat) (os : List (Int × Int)) (ho : OpsAt w ao n os) (hoF : 0 < n → Off F ao) (hoG : 0 < n → Off G ao) (hn : n ≤ 1000) :
    Calls Tryz.prog 214 #[.pointer (ptrS sp), .pointer (some ⟨q, 0, none⟩), .slice ao n cap] w (SrtPost w F G sp q m (l, bs) os) := by
  obtain ⟨j0, hj, hy0, hy1, hy2⟩ := info_parts infoRes
  have HH := Lib.hid h
  have HC := Lib.hid c
  have HA := Lib.hid ap
  have HO := Lib.hid ho
  have HOF := Lib.hid hoF
  have HOG := Lib.hid hoG
  have HL := Lib.hid ho.1
  have HLL := Lib.hid (show (ordL 3 os).length = n by rw [ordL_length]; exact ho.1)
  clear h c ap ho hoF hoG
  go_enter Tryz.func214, Tryz.ntmps214
  go_upto_region 2 with (at_make; refine wpList_make_full _ rfl _ _ 69 rfl w.heap.size 74 j0 _ 2 Tryz.underlying69 hj hy0 hy1 .i64 .i64 _ _ n rfl rfl rfl rfl (by rw [hy2]; omega) (by simp only [maxLen]; omega) (Nat.le_refl _) ?_; intro w4 hown4 hgrow4; have HM := Lib.hid (madeRes hown4 hgrow4); clear hown4 hgrow4)
  have HBW := Lib.hid HM.out.2
  have CO := Lib.hid (orderAny w4 ao n cap os (HO.out.keep HBW.out) hn)
  go_wp2_with fail
  refine CO.out.mono ?_
  rintro e w5 ⟨al, cl, rfl, r5, _, n5, b5⟩
  rw [HLL.out] at r5 ⊢
  have HR5 := Lib.hid r5
  have HN5 := Lib.hid n5
  have HB5 := Lib.hid (show Below w.heap.size w w5 from HBW.out.trans (b5.mono HBW.out.size))
  have HS := Lib.hid (show SrtAt w5 F G sp q m w.heap.size (runS m (l, bs) ((ordO 3 os).take 0)) (placeK (ordL 3 os) (runT 3 m (vals l) (ordO 3 os)) n 0) w5 from
    SrtAt.start (HH.out.fresh HB5.out) (HC.out.fresh HB5.out) HA.out (HM.out.1.below b5) (fun e => by have := HH.out.1 _ e; omega) (fun e => by have := HC.out.foot _ e; omega))
  have HLT := Lib.hid (show w.heap.size < w4.heap.size from HM.out.1.lt)
  clear r5 n5 b5 CO HM HBW
  generalize hb : w.heap.size = b at *
  have HB := Lib.hid hb
  clear hb
  go_wp2_with fail
  go_loopw [16] (fun i wr => ∃ k : Nat, k ≤ n ∧ i = .int .i64 k ∧ SrtAt w5 F G sp q m b (runS m (l, bs) ((ordO 3 os).take k)) (placeK (ordL 3 os) (runT 3 m (vals l) (ordO 3 os)) n k) wr) (fun i _ => n - (intOf i).toNat)
  case atStart => exact ⟨0, Nat.zero_le _, rfl, HS.out⟩
  case round =>
    obtain ⟨k, hk, rfl, hr⟩ := hrel
    clear HS
    by_cases hlt : k < n
    · obtain ⟨F', G', s1, c1, a1, rr, nF, nG, hw, lF, lG⟩ := hr
      have hrk := ints_kept HR5.out (fun _ a ha e => by
        have h1 := HN5.out a ha
        have h2 := HLT.out
        have h3 := HB.out
        rcases e with e | e | e
        · have := HH.out.1 _ e; omega
        · have := HC.out.foot _ e; omega
        · omega) hw
      have hok := ops_kept (HO.out.keep (show Below w.heap.size w w5 by rw [HB.out]; exact HB5.out)) (F := fun g => F g ∨ G g ∨ g = b) (fun hp a ha e => by
        rcases e with e | e | e
        · exact HOF.out hp a ha e
        · exact HOG.out hp a ha e
        · obtain ⟨b', off, e', l', _⟩ := HO.out.2 hp
          rw [e'] at ha
          injection ha with ha
          subst ha
          have h3 := HB.out
          simp only at e
          omega) hw
      obtain ⟨lb, lo, rfl, ll, lc⟩ := hrk.2 (by omega)
      have cz := lc k hlt
      have hzb := ordL_at (obj := 3) (os := os) (i := k) (by rw [HL.out]; exact hlt)
      obtain ⟨z, hz⟩ : ∃ z, (ordL 3 os).getD k 0 = z := ⟨_, rfl⟩
      rw [hz] at cz hzb
      rw [HL.out] at hzb
      obtain ⟨pl, rfl⟩ : ∃ p : Nat, z = p := ⟨z.toNat, by omega⟩
      have hpn : pl < n := by omega
      obtain ⟨bo, off, rfl, bol, hc⟩ := hok.2 (by omega)
      obtain ⟨y0, y1⟩ := hc pl hpn
      obtain ⟨kd, hkd⟩ : ∃ x, (os.getD pl (0, 0)).1 = x := ⟨_, rfl⟩
      obtain ⟨kv, hkv⟩ : ∃ x, (os.getD pl (0, 0)).2 = x := ⟨_, rfl⟩
      have e1 : (ordO 3 os).getD k (0, 0) = (kd, kv) := by rw [ordO_at (by rw [HL.out]; exact hlt), hz, Int.toNat_natCast, ← hkd, ← hkv]
      rw [hkd] at y0
      rw [hkv] at y1
      obtain ⟨Z, hZ⟩ : ∃ Z, (runS m (l, bs) ((ordO 3 os).take k)).1 = Z := ⟨_, rfl⟩
      obtain ⟨B, hB⟩ : ∃ B, (runS m (l, bs) ((ordO 3 os).take k)).2 = B := ⟨_, rfl⟩
      have hot := others_told bs os (by rw [HL.out]; exact hlt) (show runS m (l, bs) ((ordO 3 os).take k) = (Z, B) by rw [← hZ, ← hB]) e1
      rw [hZ] at s1
      rw [hB] at c1
      have CD := Lib.hid (doAny s1 c1 a1 kd kv)
      have HPK := Lib.hid (show placeK (ordL 3 os) (runT 3 m (vals l) (ordO 3 os)) n (k + 1) = (placeK (ordL 3 os) (runT 3 m (vals l) (ordO 3 os)) n k).set pl (hpC m (vals Z) kd, hpV (vals Z) kd) by
        rw [← hot.1, show pl = ((ordL 3 os).getD k 0).toNat by rw [hz, Int.toNat_natCast]]
        rfl)
      have HRS := Lib.hid hot.2
      obtain ⟨rc, hrc⟩ : ∃ x, hpC m (vals Z) kd = x := ⟨_, rfl⟩
      obtain ⟨rv, hrv⟩ : ∃ x, hpV (vals Z) kd = x := ⟨_, rfl⟩
      rw [hrc, hrv] at CD HPK
      have HN := Lib.hid (fun (w2 : World) (d : DidP F' G' sp q m (stS m (Z, B) (kd, kv)) wr w2) => SrtAt.put (i := pl) (c := rc) (x := rv) rr nF nG hw lF lG d)
      have i1 : (k : Int) < n := by omega
      have p1 : (pl : Int) < n := by omega
      clear hrk hok lc hz hzb hc hkd hkv e1 hZ hB hot hrc hrv s1 c1 a1 rr nF nG hw lF lG
      go_wp2_with fail
      refine CD.out.mono ?_
      rintro e w2 ⟨rfl, d⟩
      obtain ⟨r2, hn2⟩ := HN.out w2 d
      have HNx := Lib.hid hn2
      obtain ⟨c0, c1⟩ := r2.cells (i := pl) (by rw [placeK_length]; exact hpn)
      have fz := r2.free
      clear d hn2 r2 CD HN y0 y1 cz
      go_wp2
      go_roundw
      case rel => exact ⟨k + 1, by omega, by go_num, by rw [HRS.out, HPK.out]; exact HNx.out⟩
      case measure => simp [intOf]; omega
    · obtain rfl : k = n := by omega
      have HF := Lib.hid (SrtAt.post (w := w) (os := os) (s0 := (l, bs)) hr (by have := HB.out; omega) (batS_end m (l, bs) os (by rw [HL.out]; exact Nat.le_refl _)) (by unfold batT; rw [HL.out]) (Wrote.of (show Below w.heap.size w w5 by rw [HB.out]; exact HB5.out) _) (Later.refl _ _) (Later.refl _ _))
      rw [HL.out] at HF
      clear hr hlt
      go_wp2
      go_ret
      exact HF.out
end

end Go.Proofs.YtikaoikladbdpaaGreat
namespace Go.Proofs.YtikaoikladbdpaaGreat
open Go.RowKit Go.Lib

section
variable {w w' : World} {F G : Nat → Prop} {sp : Option Nat} {p q : Nat} {m : Int} {l : List It} {bs : List Bool}
theorem batchSO (h : SkO w F sp m l) (ao bo : Option Addr) (n cap k capb : Nat) (vs hs : List Int) (hv : Reads .i32 w ao n vs) (hh : Reads .i64 w bo k hs) (hF : 0 < n → Off F ao) (hG : 0 < k → Off F bo) (hn : n ≤ 1000000) (hcap : n ≤ cap) :
    Calls Tryz.prog 216 #[.pointer (ptrS sp), .slice ao n cap, .slice bo k capb] w fun e w' => ∃ g, w.heap.size ≤ g ∧ e = .returned (.slice (some ⟨g, 0, none⟩) n n) ∧ w'.heap[g]? = some (.cells ((toldB (roomOf m l vs) n).map Value.bool).toArray 4 (0, 0)) ∧ DidSO F sp m (insMany l vs hs (roomOf m l vs)) w w' := by
  cases sp with
  | none =>
    have hs := h
    obtain ⟨_, rfl, rfl⟩ := h
    have er : roomOf 0 [] vs = 0 := by unfold roomOf; split <;> simp
    refine (batchNil w ao n cap _ hn).mono fun e w' ⟨he, hb, hw⟩ => ⟨w.heap.size, Nat.le_refl _, he, by rw [er]; exact hb, ?_⟩
    rw [er]
    exact hs.did hw
  | some p =>
    refine (batchAnyIf h.2 ao bo n cap k capb vs hs hv hh hF hG hn hcap).mono fun e w' hp => ?_
    obtain ⟨g, h1, h2, h3, h4⟩ := hp
    rw [hv.1] at h2 h3
    exact ⟨g, h1, h2, h3, DidSO.of h4⟩
theorem boolCell {g k : Nat} {xs : List Bool} {t : TypeId} (h : w.heap[g]? = some (.cells (xs.map Value.bool).toArray t (0, 0))) (hk : k < xs.length) : w.cell? ⟨g, k, none⟩ = some (.bool (xs.getD k false)) := by simp [World.cell?, h, List.getD, hk]

def AddAt (w5 : World) (b n k : Nat) (os : List (Int × Int)) (T : List (Int × Int)) (wr : World) : Prop :=
  RRow wr b (placeK (ordL 3 os) T n k) ∧ Wrote (fun g => g = b) w5 wr

theorem AddAt.next {w5 wr w2 : World} {b n k pl : Nat} {os T : List (Int × Int)} {c x : Int} (h : AddAt w5 b n k os T wr) (hb : Below wr.heap.size wr w2) (hp : ((ordL 3 os).getD k 0).toNat = pl) (ht : T.getD k (0, 0) = (c, x)) :
    RRow w2 b (placeK (ordL 3 os) T n k) ∧ AddAt w5 b n (k + 1) os T ((w2.setCell ⟨b, pl * 2, none⟩ (.int .u8 c)).setCell ⟨b, pl * 2 + 1, none⟩ (.int .i32 x)) := by
  have r2 := h.1.below hb
  refine ⟨r2, ?_, (h.2.trans (Wrote.of hb _)).trans (wrote2 w2 b _ _ _ _)⟩
  have := r2.set2 pl c x
  unfold placeK
  rw [hp, ht]
  exact this
end

section
variable {w : World} {F G : Nat → Prop} {sp : Option Nat} {p q : Nat} {m : Int} {l : List It} {bs : List Bool}

set_option maxRecDepth 100000 in
set_option maxHeartbeats 32000000 in
theorem applyAny (h : SkO w F sp m l) (c : Coin w G q bs) (ap : Apart F G) (ao : Option Addr) (n cap : Nat) (os : List (Int × Int)) (ho : OpsAt w ao n os) (hoF : 0 < n → Off F ao) (hoG : 0 < n → Off G ao) (hn : n ≤ 1000) :
    Calls Tryz.prog 213 #[.pointer (ptrS sp), .pointer (some ⟨q, 0, none⟩), .slice ao n cap] w (SrtPost w F G sp q m (l, bs) os) := by
  obtain ⟨j0, hj, hy0, hy1, hy2⟩ := info_parts infoRes
  have hroom := h.room
  have HH := Lib.hid h
  have HC := Lib.hid c
  have HA := Lib.hid ap
  have HO := Lib.hid ho
  have HOF := Lib.hid hoF
  have HOG := Lib.hid hoG
  have HL := Lib.hid ho.1
  have HLL := Lib.hid (show (addsL os).length + (othersL os).length = n by rw [parts_length]; exact ho.1)
  have CP := Lib.hid (partsAny w ao n cap os ho hn)
  clear h c ap ho hoF hoG
  obtain ⟨an, han⟩ : ∃ x, (addsL os).length = x := ⟨_, rfl⟩
  have HAN := Lib.hid han
  have han1 : an ≤ 1000 := by have := HLL.out; omega
  clear han
  go_enter Tryz.func213, Tryz.ntmps213
  go_wp2_with fail
  refine CP.out.mono ?_
  rintro e w1 ⟨va, vo, rfl, hr⟩
  obtain ⟨al, cl, e1, ra, hcl, hal⟩ := reads_own hr.a
  subst e1
  obtain ⟨bo, co, e2, ro, hco, hbo⟩ := reads_own hr.o
  subst e2
  have HB1 := Lib.hid hr.b
  have hal2 : ∀ x, al = some x → 0 < an → x.block < w1.heap.size := fun x hx hp => by
    obtain ⟨b', off, e', l', _⟩ := ra.2 (by have := HAN.out; omega)
    rw [e'] at hx; injection hx with hx; subst hx; exact l'
  have hall : ∀ x, al = some x → x.block < w1.heap.size := fun x hx => (hr.a.lt x.block (by rw [hx]; rfl)).2
  have hbol : ∀ x, bo = some x → x.block < w1.heap.size := fun x hx => (hr.o.lt x.block (by rw [hx]; rfl)).2
  have HAl := Lib.hid (show ∀ x, al = some x → w.heap.size ≤ x.block ∧ x.block < w1.heap.size from fun x hx => ⟨by have := hal x hx; omega, hall x hx⟩)
  have HBo := Lib.hid (show ∀ x, bo = some x → w.heap.size ≤ x.block ∧ x.block < w1.heap.size from fun x hx => ⟨by have := hbo x hx; omega, hbol x hx⟩)
  rw [HAN.out] at ra hcl ⊢
  have HRA := Lib.hid ra
  have HRO := Lib.hid ro
  have CV := Lib.hid (valuesAny w1 ao al n cap an cl os (addsL os) (HO.out.keep HB1.out) ra (fun x hx => by have := addsL_in hx; rw [HL.out] at this; exact ⟨this.1, this.2.1⟩) hn han1)
  clear hr ra ro hal hbo hco hal2 hall hbol CP
  obtain ⟨on, hon⟩ : ∃ x, (othersL os).length = x := ⟨_, rfl⟩
  have HON := Lib.hid hon
  rw [hon] at HRO ⊢
  have hon1 : on ≤ 1000 := by have := HLL.out; omega
  clear hon
  go_wp2_with fail
  refine CV.out.mono ?_
  rintro e w2 ⟨rfl, rv, b2⟩
  have HRV := Lib.hid rv
  have HB2 := Lib.hid b2
  have HB12 := Lib.hid (show Below w.heap.size w w2 from HB1.out.trans (b2.mono HB1.out.size))
  clear rv b2 CV
  obtain ⟨R, hR⟩ : ∃ R : Nat, m - (l.length : Int) = R := ⟨(m - l.length).toNat, by omega⟩
  have CR := roomSO (HH.out.fresh HB12.out)
  rw [hR] at CR
  have HR := Lib.hid hR
  clear hR hroom
  go_wp2_with fail
  refine CR.mono ?_
  clear CR
  rintro e w2' ⟨rfl, rfl⟩
  by_cases hmin : R ≤ an
  · have hlt : (R : Int) ≤ an := by omega
    have HRM := Lib.hid (show roomS m l os = R by unfold roomS; rw [HAN.out, HR.out]; omega)
    have hr1 : R ≤ 1000 := by omega
    clear hmin
    have CHt := Lib.hid (heightsAny (HC.out.fresh HB12.out) R hr1)
    go_wp2_with fail
    refine CHt.out.mono ?_
    rintro e w3 ⟨G1, rfl, rh, c3, nG1, wr3, lG1⟩
    have hs1 : w1.heap.size < w2.heap.size := HRV.out.lt
    have hsw : w.heap.size ≤ w1.heap.size := HB1.out.size
    have rv3 : Rw w3 w1.heap.size .i32 21 (valsL os) := HRV.out.keep (wr3.block _ hs1 (fun e => by have := HC.out.foot _ e; omega))
    have dP := DidP.right (HH.out.fresh HB12.out) HA.out ⟨G1, c3, wr3, lG1⟩
    have sk3 := (HH.out.fresh HB12.out).apart wr3 HA.out
    have apG := lG1.apart HA.out.symm (fun g hg => Nat.lt_of_lt_of_le (HH.out.1 g hg) HB12.out.size)
    have CB := batchSO sk3 (some ⟨w1.heap.size, 0, none⟩) (some ⟨w2.heap.size, 0, none⟩) an an R R (valsL os) (hgts bs R) (rv3.reads (by rw [valsL_length, HAN.out])) (rh.reads (hgts_length bs R)) (fun _ a ha e => by injection ha with ha; subst ha; have := HH.out.1 _ e; simp only at this; omega) (fun _ a ha e => by injection ha with ha; subst ha; have := HH.out.1 _ e; simp only at this; omega) (by omega) (Nat.le_refl _)
    rw [room_is, HRM.out] at CB
    have HCB := Lib.hid CB
    have HX := Lib.hid (And.intro c3 (And.intro apG (And.intro wr3 lG1)))
    clear rh c3 nG1 wr3 lG1 rv3 dP sk3 apG CB CHt hlt
    go_wp2_with fail
    refine HCB.out.mono ?_
    rintro e w4 ⟨g, hg, rfl, ht, dB⟩
    have dP := DidP.trans (HX.out.2.2.1.into (fun _ h => Or.inr h)) (Later.refl _ _) HX.out.2.2.2 (DidP.left HX.out.1 HX.out.2.1.symm dB)
    have dP1 : DidP F G sp q m (insMany l (valsL os) (hgts bs R) R, lefts bs R) w1 w4 := DidP.less HB2.out dP
    have hs3 := HX.out.2.2.1.size
    have dP2 := dP1
    obtain ⟨_, _, _, _, _, wr14, _, _⟩ := dP2
    have ra4 := ints_kept HRA.out (fun _ a ha e => by have := (HAl.out a ha).1; rcases e with e | e; (have := HH.out.1 _ e; omega); (have := HC.out.foot _ e; omega)) wr14
    have ro4 := ints_kept HRO.out (fun _ a ha e => by have := (HBo.out a ha).1; rcases e with e | e; (have := HH.out.1 _ e; omega); (have := HC.out.foot _ e; omega)) wr14
    have hs4 := wr14.size
    have HK4 := Lib.hid (And.intro dP1 (And.intro ra4 (And.intro ro4 (And.intro ht (show w1.heap.size ≤ w4.heap.size from hs4)))))
    clear dP dP1 wr14 ra4 ro4 ht dB hs3 hs4 HCB HX hs1 hsw hg
    go_upto_region 4 with (at_make; refine wpList_make_full _ rfl _ _ 69 rfl w4.heap.size 74 j0 _ 2 Tryz.underlying69 hj hy0 hy1 .i64 .i64 _ _ n rfl rfl rfl rfl (by rw [hy2]; omega) (by simp only [maxLen]; omega) (Nat.le_refl _) ?_; intro w5 hown5 hgrow5; have HM := Lib.hid (madeRes hown5 hgrow5); clear hown5 hgrow5)
    have hg4 : g < w4.heap.size := lt_of_block HK4.out.2.2.2.1
    generalize hb : w4.heap.size = b at *
    have HBB := Lib.hid hb
    have HM2 := Lib.hid (show Below w4.heap.size w4 w5 by rw [hb]; exact HM.out.2)
    clear hb
    have HS := Lib.hid (show AddAt w5 b n 0 os (runT 3 m (vals l) (ordO 3 os)) w5 from ⟨by simpa [placeK] using HM.out.1, Wrote.refl _ _⟩)
    go_wp2_with fail
    go_loopw [37] (fun i wr => ∃ k : Nat, k ≤ an ∧ i = .int .i64 k ∧ AddAt w5 b n k os (runT 3 m (vals l) (ordO 3 os)) wr) (fun i _ => an - (intOf i).toNat)
    case atStart => exact ⟨0, Nat.zero_le _, rfl, HS.out⟩
    case round =>
      obtain ⟨k, hk, rfl, hr⟩ := hrel
      clear HS
      by_cases hlt : k < an
      · have ra := ints_kept (HK4.out.2.1.keep HM2.out) (F := fun g => g = b) (fun _ a ha e => by have := (HAl.out a ha).2; have := HK4.out.2.2.2.2; omega) hr.2
        have hkA : k < (addsL os).length := by rw [HAN.out]; exact hlt
        obtain ⟨lb, lo, rfl, ll, lc⟩ := ra.2 (by omega)
        have cz := lc k hlt
        have hzb := addsL_at hkA
        have hzo : (ordL 3 os).getD k 0 = (addsL os).getD k 0 := by rw [ordL_parts]; exact getD_left _ _ _ hkA
        obtain ⟨z, hz⟩ : ∃ z, (addsL os).getD k 0 = z := ⟨_, rfl⟩
        rw [hz] at cz hzb hzo
        obtain ⟨pl, rfl⟩ : ∃ p : Nat, z = p := ⟨z.toNat, by omega⟩
        have hpn : pl < n := by have := hzb.2.1; rw [HL.out] at this; omega
        have htl : (toldB R (addsL os).length).length = an := by rw [toldB_length (by rw [← HRM.out]; unfold roomS; omega), HAN.out]
        have ct : wr.cell? ⟨g, k, none⟩ = some (.bool ((toldB R (addsL os).length).getD k false)) := by
          have h5 : w5.heap[g]? = some (.cells ((toldB R (addsL os).length).map Value.bool).toArray 4 (0, 0)) := (HM2.out.block g (by rw [HBB.out]; exact hg4)).trans (by rw [HAN.out]; exact HK4.out.2.2.2.1)
          exact boolCell ((hr.2.block g (lt_of_block h5) (show ¬ g = b by omega)).trans h5) (by rw [htl]; exact hlt)
        have htd := adds_told bs os (show (l.length : Int) ≤ m by have := HR.out; omega) hkA
        rw [HRM.out] at htd
        obtain ⟨tb, htb⟩ : ∃ x, (toldB R (addsL os).length).getD k false = x := ⟨_, rfl⟩
        rw [htb] at ct htd
        have CA := Lib.hid (addedAny wr tb)
        have HN := Lib.hid (fun (w2 : World) (hb : Below wr.heap.size wr w2) => AddAt.next (pl := pl) hr hb (by rw [hzo, Int.toNat_natCast]) htd)
        have i1 : (k : Int) < an := by omega
        have p1 : (pl : Int) < n := by omega
        clear ra hkA lc hzb hzo hz htl htd htb hr
        go_wp2_with fail
        refine CA.out.mono ?_
        rintro e w6 ⟨rfl, b6⟩
        obtain ⟨r2, hn2⟩ := HN.out w6 b6
        have HNx := Lib.hid hn2
        obtain ⟨c0, c1⟩ := r2.cells (i := pl) (by rw [placeK_length]; exact hpn)
        have fz := r2.free
        clear hn2 r2 b6 CA HN cz ct
        go_wp2
        go_roundw
        case rel => exact ⟨k + 1, by omega, by go_num, HNx.out⟩
        case measure => simp [intOf]; omega
      · obtain rfl : an = k := by omega
        clear hlt
        obtain ⟨F', G', s1, c1, a1, wA, lF, lG⟩ := HK4.out.1
        have nF : ¬ F' b := fun e => by have := s1.1 _ e; have := HBB.out; omega
        have nG : ¬ G' b := fun e => by have := c1.foot _ e; have := HBB.out; omega
        have wR : Wrote (fun g => g = b) w5 wr := hr.2
        have hA0 := adds_all bs os (show (l.length : Int) ≤ m by have := HR.out; omega)
        rw [HRM.out, HAN.out] at hA0
        have HS2 := Lib.hid (show SrtAt wr F' G' sp q m b (runS m (l, bs) ((ordO 3 os).take (an + 0))) (placeK (ordL 3 os) (runT 3 m (vals l) (ordO 3 os)) n (an + 0)) wr from
          SrtAt.start (by rw [Nat.add_zero, hA0]; exact (s1.fresh HM2.out).apart wR (fun x a e => nF (e ▸ a))) (by rw [Nat.add_zero, hA0]; exact (c1.fresh HM2.out).apart wR (fun x a e => nG (e ▸ a))) a1 hr.1 nF nG)
        have h5 := ((Wrote.of HB1.out (fun g => F g ∨ G g)).trans wA).trans (Wrote.of HM2.out _)
        have HW0 := Lib.hid (show Wrote (fun g => F g ∨ G g) w wr from 
          ⟨wR.os.trans h5.os, wR.tape.trans h5.tape, wR.output.trans h5.output, Nat.le_trans h5.size wR.size, fun x hx hne => (wR.block x (Nat.lt_of_lt_of_le hx h5.size) (fun e => by
            have e : x = b := e
            have h1 := HK4.out.2.2.2.2
            have h2 := HB1.out.size
            have h3 := HBB.out
            omega)).trans (h5.block x hx hne)⟩)
        have HSZ := Lib.hid (show w.heap.size ≤ b by have := HK4.out.2.2.2.2; have := HB1.out.size; omega)
        have HLF := Lib.hid (And.intro (show Later F F' w from fun g hg => (lF g hg).imp id (fun h => Nat.le_trans HB1.out.size h)) (show Later G G' w from fun g hg => (lG g hg).imp id (fun h => Nat.le_trans HB1.out.size h)))
        have HRO5 := Lib.hid (ints_kept (HK4.out.2.2.1.keep HM2.out) (F := fun g => g = b) (fun _ a ha e => by have := (HBo.out a ha).2; have := HK4.out.2.2.2.2; omega) wR)
        have HNO := Lib.hid (show ∀ x, bo = some x → ¬ (F' x.block ∨ G' x.block ∨ x.block = b) from fun x hx e => by
          have h1 := HBo.out x hx
          have h2 := HK4.out.2.2.2.2
          rcases e with e | e | e
          · rcases lF _ e with h | h
            · have := HH.out.1 _ h; omega
            · omega
          · rcases lG _ e with h | h
            · have := HC.out.foot _ h; omega
            · omega
          · omega)
        have HOK := Lib.hid (show OpsAt wr ao n os from by
          have h6 := ops_kept HO.out (F := fun g => F g ∨ G g) (fun hp a ha e => by
            rcases e with e | e
            · exact HOF.out hp a ha e
            · exact HOG.out hp a ha e) HW0.out
          exact h6)
        have HOO := Lib.hid (show ∀ a, 0 < n → ao = some a → ¬ (F' a.block ∨ G' a.block ∨ a.block = b) from fun a hp ha e => by
          obtain ⟨b', off, e', l', _⟩ := HO.out.2 hp
          have ha0 := ha
          rw [e'] at ha
          injection ha with ha
          have hb' : a.block = b' := by rw [← ha]
          have h2 := HK4.out.2.2.2.2
          have h3 := HB1.out.size
          rcases e with e | e | e
          · rcases lF _ e with h | h
            · exact HOF.out hp a ha0 h
            · omega
          · rcases lG _ e with h | h
            · exact HOG.out hp a ha0 h
            · omega
          · omega)
        clear s1 c1 a1 wA lF lG nF nG wR hA0 h5 hr HM HM2 HK4
        generalize wr = w6 at *
        go_wp2_with fail
        go_loopw [53] (fun i wr => ∃ j : Nat, j ≤ on ∧ i = .int .i64 j ∧ SrtAt w6 F' G' sp q m b (runS m (l, bs) ((ordO 3 os).take (an + j))) (placeK (ordL 3 os) (runT 3 m (vals l) (ordO 3 os)) n (an + j)) wr) (fun i _ => on - (intOf i).toNat)
        case atStart => exact ⟨0, Nat.zero_le _, rfl, HS2.out⟩
        case round =>
          obtain ⟨j, hj', rfl, hr⟩ := hrel
          clear HS2
          by_cases hlt : j < on
          · obtain ⟨F2, G2, s1, c1, a1, rr, nF, nG, hw, lF, lG⟩ := hr
            have hrk := ints_kept HRO5.out (fun _ a ha e => HNO.out a ha e) hw
            have hok := ops_kept HOK.out (fun hp a ha e => HOO.out a hp ha e) hw
            have hjO : j < (othersL os).length := by rw [HON.out]; exact hlt
            have hkn : an + j < n := by have := HLL.out; have := HAN.out; have := HON.out; omega
            obtain ⟨lb, lo, rfl, ll, lc⟩ := hrk.2 (by omega)
            have cz := lc j hlt
            have hzb := othersL_at hjO
            have hzo : (ordL 3 os).getD (an + j) 0 = (othersL os).getD j 0 := by rw [ordL_parts, ← HAN.out]; exact getD_at _ _ _
            have eo := ordO_other hjO
            rw [HAN.out] at eo
            obtain ⟨z, hz⟩ : ∃ z, (othersL os).getD j 0 = z := ⟨_, rfl⟩
            rw [hz] at cz hzb hzo eo
            obtain ⟨pl, rfl⟩ : ∃ p : Nat, z = p := ⟨z.toNat, by omega⟩
            have hpn : pl < n := by have := hzb.2.1; rw [HL.out] at this; omega
            obtain ⟨oo, off, rfl, bol, hc⟩ := hok.2 (by omega)
            obtain ⟨y0, y1⟩ := hc pl hpn
            obtain ⟨kd, hkd⟩ : ∃ x, (os.getD pl (0, 0)).1 = x := ⟨_, rfl⟩
            obtain ⟨kv, hkv⟩ : ∃ x, (os.getD pl (0, 0)).2 = x := ⟨_, rfl⟩
            rw [Int.toNat_natCast] at eo hzb
            have hk1 : ¬ kd = 1 := by rw [← hkd]; exact hzb.2.2
            have e1 : (ordO 3 os).getD (an + j) (0, 0) = (kd, kv) := by rw [eo, ← hkd, ← hkv]
            rw [hkd] at y0
            rw [hkv] at y1
            obtain ⟨Z, hZ⟩ : ∃ Z, (runS m (l, bs) ((ordO 3 os).take (an + j))).1 = Z := ⟨_, rfl⟩
            obtain ⟨B, hB⟩ : ∃ B, (runS m (l, bs) ((ordO 3 os).take (an + j))).2 = B := ⟨_, rfl⟩
            have hot := others_told bs os (by rw [HL.out]; exact hkn) (show runS m (l, bs) ((ordO 3 os).take (an + j)) = (Z, B) by rw [← hZ, ← hB]) e1
            rw [hZ] at s1
            rw [hB] at c1
            have CD := Lib.hid (takenAny s1 kd kv hk1)
            have HPK := Lib.hid (show placeK (ordL 3 os) (runT 3 m (vals l) (ordO 3 os)) n (an + j + 1) = (placeK (ordL 3 os) (runT 3 m (vals l) (ordO 3 os)) n (an + j)).set pl (hpC m (vals Z) kd, hpV (vals Z) kd) by
              rw [← hot.1, show pl = ((ordL 3 os).getD (an + j) 0).toNat by rw [hzo, Int.toNat_natCast]]
              rfl)
            have est : stS m (Z, B) (kd, kv) = ((if kd = 2 then Z.tail else Z), B) := by
              unfold stS
              rw [if_neg hk1]
              split <;> rfl
            have HRS := Lib.hid (hot.2.trans est)
            obtain ⟨rc, hrc⟩ : ∃ x, hpC m (vals Z) kd = x := ⟨_, rfl⟩
            obtain ⟨rv, hrv⟩ : ∃ x, hpV (vals Z) kd = x := ⟨_, rfl⟩
            rw [hrc, hrv] at CD HPK
            have HN := Lib.hid (fun (w2 : World) (d : DidSO F2 sp m (if kd = 2 then Z.tail else Z) wr w2) => SrtAt.put (i := pl) (c := rc) (x := rv) rr nF nG hw lF lG (DidP.left (m := m) c1 a1 d))
            have i1 : (j : Int) < on := by omega
            have p1 : (pl : Int) < n := by omega
            clear hrk hok lc hzb hz hzo eo hc hkd hkv e1 hZ hB hot hrc hrv s1 c1 a1 rr nF nG hw lF lG hjO est
            go_wp2_with fail
            refine CD.out.mono ?_
            rintro e w7 ⟨rfl, d⟩
            obtain ⟨r2, hn2⟩ := HN.out w7 d
            have HNx := Lib.hid hn2
            obtain ⟨c0, c1⟩ := r2.cells (i := pl) (by rw [placeK_length]; exact hpn)
            have fz := r2.free
            clear d hn2 r2 CD HN y0 y1 cz
            go_wp2
            go_roundw
            case rel => exact ⟨j + 1, by omega, by go_num, by rw [show an + (j + 1) = an + j + 1 by omega, HRS.out, HPK.out]; exact HNx.out⟩
            case measure => simp [intOf]; omega
          · obtain rfl : on = j := by omega
            have hen : an + on = n := by have := HLL.out; have := HAN.out; have := HON.out; omega
            rw [hen] at hr
            have HF := Lib.hid (SrtAt.post (w := w) (os := os) (s0 := (l, bs)) hr (by have := HBB.out; have := HW0.out.size; have := HB1.out.size; have := HSZ.out; omega) (batS_end m (l, bs) os (by rw [HL.out]; exact Nat.le_refl _)) (by unfold batT; rw [HL.out]) HW0.out HLF.out.1 HLF.out.2)
            rw [HL.out] at HF
            clear hr hlt hen
            go_wp2
            go_ret
            exact HF.out
  · have hlt : (an : Int) < R := by omega
    have HRM := Lib.hid (show roomS m l os = an by unfold roomS; rw [HAN.out, HR.out]; omega)
    have hr1 : an ≤ 1000 := by omega
    clear hmin
    have CHt := Lib.hid (heightsAny (HC.out.fresh HB12.out) an hr1)
    go_wp2_with fail
    refine CHt.out.mono ?_
    rintro e w3 ⟨G1, rfl, rh, c3, nG1, wr3, lG1⟩
    have hs1 : w1.heap.size < w2.heap.size := HRV.out.lt
    have hsw : w.heap.size ≤ w1.heap.size := HB1.out.size
    have rv3 : Rw w3 w1.heap.size .i32 21 (valsL os) := HRV.out.keep (wr3.block _ hs1 (fun e => by have := HC.out.foot _ e; omega))
    have dP := DidP.right (HH.out.fresh HB12.out) HA.out ⟨G1, c3, wr3, lG1⟩
    have sk3 := (HH.out.fresh HB12.out).apart wr3 HA.out
    have apG := lG1.apart HA.out.symm (fun g hg => Nat.lt_of_lt_of_le (HH.out.1 g hg) HB12.out.size)
    have CB := batchSO sk3 (some ⟨w1.heap.size, 0, none⟩) (some ⟨w2.heap.size, 0, none⟩) an an an an (valsL os) (hgts bs an) (rv3.reads (by rw [valsL_length, HAN.out])) (rh.reads (hgts_length bs an)) (fun _ a ha e => by injection ha with ha; subst ha; have := HH.out.1 _ e; simp only at this; omega) (fun _ a ha e => by injection ha with ha; subst ha; have := HH.out.1 _ e; simp only at this; omega) (by omega) (Nat.le_refl _)
    rw [room_is, HRM.out] at CB
    have HCB := Lib.hid CB
    have HX := Lib.hid (And.intro c3 (And.intro apG (And.intro wr3 lG1)))
    clear rh c3 nG1 wr3 lG1 rv3 dP sk3 apG CB CHt hlt
    go_wp2_with fail
    refine HCB.out.mono ?_
    rintro e w4 ⟨g, hg, rfl, ht, dB⟩
    have dP := DidP.trans (HX.out.2.2.1.into (fun _ h => Or.inr h)) (Later.refl _ _) HX.out.2.2.2 (DidP.left HX.out.1 HX.out.2.1.symm dB)
    have dP1 : DidP F G sp q m (insMany l (valsL os) (hgts bs an) an, lefts bs an) w1 w4 := DidP.less HB2.out dP
    have hs3 := HX.out.2.2.1.size
    have dP2 := dP1
    obtain ⟨_, _, _, _, _, wr14, _, _⟩ := dP2
    have ra4 := ints_kept HRA.out (fun _ a ha e => by have := (HAl.out a ha).1; rcases e with e | e; (have := HH.out.1 _ e; omega); (have := HC.out.foot _ e; omega)) wr14
    have ro4 := ints_kept HRO.out (fun _ a ha e => by have := (HBo.out a ha).1; rcases e with e | e; (have := HH.out.1 _ e; omega); (have := HC.out.foot _ e; omega)) wr14
    have hs4 := wr14.size
    have HK4 := Lib.hid (And.intro dP1 (And.intro ra4 (And.intro ro4 (And.intro ht (show w1.heap.size ≤ w4.heap.size from hs4)))))
    clear dP dP1 wr14 ra4 ro4 ht dB hs3 hs4 HCB HX hs1 hsw hg
    go_upto_region 4 with (at_make; refine wpList_make_full _ rfl _ _ 69 rfl w4.heap.size 74 j0 _ 2 Tryz.underlying69 hj hy0 hy1 .i64 .i64 _ _ n rfl rfl rfl rfl (by rw [hy2]; omega) (by simp only [maxLen]; omega) (Nat.le_refl _) ?_; intro w5 hown5 hgrow5; have HM := Lib.hid (madeRes hown5 hgrow5); clear hown5 hgrow5)
    have hg4 : g < w4.heap.size := lt_of_block HK4.out.2.2.2.1
    generalize hb : w4.heap.size = b at *
    have HBB := Lib.hid hb
    have HM2 := Lib.hid (show Below w4.heap.size w4 w5 by rw [hb]; exact HM.out.2)
    clear hb
    have HS := Lib.hid (show AddAt w5 b n 0 os (runT 3 m (vals l) (ordO 3 os)) w5 from ⟨by simpa [placeK] using HM.out.1, Wrote.refl _ _⟩)
    go_wp2_with fail
    go_loopw [37] (fun i wr => ∃ k : Nat, k ≤ an ∧ i = .int .i64 k ∧ AddAt w5 b n k os (runT 3 m (vals l) (ordO 3 os)) wr) (fun i _ => an - (intOf i).toNat)
    case atStart => exact ⟨0, Nat.zero_le _, rfl, HS.out⟩
    case round =>
      obtain ⟨k, hk, rfl, hr⟩ := hrel
      clear HS
      by_cases hlt : k < an
      · have ra := ints_kept (HK4.out.2.1.keep HM2.out) (F := fun g => g = b) (fun _ a ha e => by have := (HAl.out a ha).2; have := HK4.out.2.2.2.2; omega) hr.2
        have hkA : k < (addsL os).length := by rw [HAN.out]; exact hlt
        obtain ⟨lb, lo, rfl, ll, lc⟩ := ra.2 (by omega)
        have cz := lc k hlt
        have hzb := addsL_at hkA
        have hzo : (ordL 3 os).getD k 0 = (addsL os).getD k 0 := by rw [ordL_parts]; exact getD_left _ _ _ hkA
        obtain ⟨z, hz⟩ : ∃ z, (addsL os).getD k 0 = z := ⟨_, rfl⟩
        rw [hz] at cz hzb hzo
        obtain ⟨pl, rfl⟩ : ∃ p : Nat, z = p := ⟨z.toNat, by omega⟩
        have hpn : pl < n := by have := hzb.2.1; rw [HL.out] at this; omega
        have htl : (toldB an (addsL os).length).length = an := by rw [toldB_length (by rw [← HRM.out]; unfold roomS; omega), HAN.out]
        have ct : wr.cell? ⟨g, k, none⟩ = some (.bool ((toldB an (addsL os).length).getD k false)) := by
          have h5 : w5.heap[g]? = some (.cells ((toldB an (addsL os).length).map Value.bool).toArray 4 (0, 0)) := (HM2.out.block g (by rw [HBB.out]; exact hg4)).trans (by rw [HAN.out]; exact HK4.out.2.2.2.1)
          exact boolCell ((hr.2.block g (lt_of_block h5) (show ¬ g = b by omega)).trans h5) (by rw [htl]; exact hlt)
        have htd := adds_told bs os (show (l.length : Int) ≤ m by have := HR.out; omega) hkA
        rw [HRM.out] at htd
        obtain ⟨tb, htb⟩ : ∃ x, (toldB an (addsL os).length).getD k false = x := ⟨_, rfl⟩
        rw [htb] at ct htd
        have CA := Lib.hid (addedAny wr tb)
        have HN := Lib.hid (fun (w2 : World) (hb : Below wr.heap.size wr w2) => AddAt.next (pl := pl) hr hb (by rw [hzo, Int.toNat_natCast]) htd)
        have i1 : (k : Int) < an := by omega
        have p1 : (pl : Int) < n := by omega
        clear ra hkA lc hzb hzo hz htl htd htb hr
        go_wp2_with fail
        refine CA.out.mono ?_
        rintro e w6 ⟨rfl, b6⟩
        obtain ⟨r2, hn2⟩ := HN.out w6 b6
        have HNx := Lib.hid hn2
        obtain ⟨c0, c1⟩ := r2.cells (i := pl) (by rw [placeK_length]; exact hpn)
        have fz := r2.free
        clear hn2 r2 b6 CA HN cz ct
        go_wp2
        go_roundw
        case rel => exact ⟨k + 1, by omega, by go_num, HNx.out⟩
        case measure => simp [intOf]; omega
      · obtain rfl : an = k := by omega
        clear hlt
        obtain ⟨F', G', s1, c1, a1, wA, lF, lG⟩ := HK4.out.1
        have nF : ¬ F' b := fun e => by have := s1.1 _ e; have := HBB.out; omega
        have nG : ¬ G' b := fun e => by have := c1.foot _ e; have := HBB.out; omega
        have wR : Wrote (fun g => g = b) w5 wr := hr.2
        have hA0 := adds_all bs os (show (l.length : Int) ≤ m by have := HR.out; omega)
        rw [HRM.out, HAN.out] at hA0
        have HS2 := Lib.hid (show SrtAt wr F' G' sp q m b (runS m (l, bs) ((ordO 3 os).take (an + 0))) (placeK (ordL 3 os) (runT 3 m (vals l) (ordO 3 os)) n (an + 0)) wr from
          SrtAt.start (by rw [Nat.add_zero, hA0]; exact (s1.fresh HM2.out).apart wR (fun x a e => nF (e ▸ a))) (by rw [Nat.add_zero, hA0]; exact (c1.fresh HM2.out).apart wR (fun x a e => nG (e ▸ a))) a1 hr.1 nF nG)
        have h5 := ((Wrote.of HB1.out (fun g => F g ∨ G g)).trans wA).trans (Wrote.of HM2.out _)
        have HW0 := Lib.hid (show Wrote (fun g => F g ∨ G g) w wr from 
          ⟨wR.os.trans h5.os, wR.tape.trans h5.tape, wR.output.trans h5.output, Nat.le_trans h5.size wR.size, fun x hx hne => (wR.block x (Nat.lt_of_lt_of_le hx h5.size) (fun e => by
            have e : x = b := e
            have h1 := HK4.out.2.2.2.2
            have h2 := HB1.out.size
            have h3 := HBB.out
            omega)).trans (h5.block x hx hne)⟩)
        have HSZ := Lib.hid (show w.heap.size ≤ b by have := HK4.out.2.2.2.2; have := HB1.out.size; omega)
        have HLF := Lib.hid (And.intro (show Later F F' w from fun g hg => (lF g hg).imp id (fun h => Nat.le_trans HB1.out.size h)) (show Later G G' w from fun g hg => (lG g hg).imp id (fun h => Nat.le_trans HB1.out.size h)))
        have HRO5 := Lib.hid (ints_kept (HK4.out.2.2.1.keep HM2.out) (F := fun g => g = b) (fun _ a ha e => by have := (HBo.out a ha).2; have := HK4.out.2.2.2.2; omega) wR)
        have HNO := Lib.hid (show ∀ x, bo = some x → ¬ (F' x.block ∨ G' x.block ∨ x.block = b) from fun x hx e => by
          have h1 := HBo.out x hx
          have h2 := HK4.out.2.2.2.2
          rcases e with e | e | e
          · rcases lF _ e with h | h
            · have := HH.out.1 _ h; omega
            · omega
          · rcases lG _ e with h | h
            · have := HC.out.foot _ h; omega
            · omega
          · omega)
        have HOK := Lib.hid (show OpsAt wr ao n os from by
          have h6 := ops_kept HO.out (F := fun g => F g ∨ G g) (fun hp a ha e => by
            rcases e with e | e
            · exact HOF.out hp a ha e
            · exact HOG.out hp a ha e) HW0.out
          exact h6)
        have HOO := Lib.hid (show ∀ a, 0 < n → ao = some a → ¬ (F' a.block ∨ G' a.block ∨ a.block = b) from fun a hp ha e => by
          obtain ⟨b', off, e', l', _⟩ := HO.out.2 hp
          have ha0 := ha
          rw [e'] at ha
          injection ha with ha
          have hb' : a.block = b' := by rw [← ha]
          have h2 := HK4.out.2.2.2.2
          have h3 := HB1.out.size
          rcases e with e | e | e
          · rcases lF _ e with h | h
            · exact HOF.out hp a ha0 h
            · omega
          · rcases lG _ e with h | h
            · exact HOG.out hp a ha0 h
            · omega
          · omega)
        clear s1 c1 a1 wA lF lG nF nG wR hA0 h5 hr HM HM2 HK4
        generalize wr = w6 at *
        go_wp2_with fail
        go_loopw [53] (fun i wr => ∃ j : Nat, j ≤ on ∧ i = .int .i64 j ∧ SrtAt w6 F' G' sp q m b (runS m (l, bs) ((ordO 3 os).take (an + j))) (placeK (ordL 3 os) (runT 3 m (vals l) (ordO 3 os)) n (an + j)) wr) (fun i _ => on - (intOf i).toNat)
        case atStart => exact ⟨0, Nat.zero_le _, rfl, HS2.out⟩
        case round =>
          obtain ⟨j, hj', rfl, hr⟩ := hrel
          clear HS2
          by_cases hlt : j < on
          · obtain ⟨F2, G2, s1, c1, a1, rr, nF, nG, hw, lF, lG⟩ := hr
            have hrk := ints_kept HRO5.out (fun _ a ha e => HNO.out a ha e) hw
            have hok := ops_kept HOK.out (fun hp a ha e => HOO.out a hp ha e) hw
            have hjO : j < (othersL os).length := by rw [HON.out]; exact hlt
            have hkn : an + j < n := by have := HLL.out; have := HAN.out; have := HON.out; omega
            obtain ⟨lb, lo, rfl, ll, lc⟩ := hrk.2 (by omega)
            have cz := lc j hlt
            have hzb := othersL_at hjO
            have hzo : (ordL 3 os).getD (an + j) 0 = (othersL os).getD j 0 := by rw [ordL_parts, ← HAN.out]; exact getD_at _ _ _
            have eo := ordO_other hjO
            rw [HAN.out] at eo
            obtain ⟨z, hz⟩ : ∃ z, (othersL os).getD j 0 = z := ⟨_, rfl⟩
            rw [hz] at cz hzb hzo eo
            obtain ⟨pl, rfl⟩ : ∃ p : Nat, z = p := ⟨z.toNat, by omega⟩
            have hpn : pl < n := by have := hzb.2.1; rw [HL.out] at this; omega
            obtain ⟨oo, off, rfl, bol, hc⟩ := hok.2 (by omega)
            obtain ⟨y0, y1⟩ := hc pl hpn
            obtain ⟨kd, hkd⟩ : ∃ x, (os.getD pl (0, 0)).1 = x := ⟨_, rfl⟩
            obtain ⟨kv, hkv⟩ : ∃ x, (os.getD pl (0, 0)).2 = x := ⟨_, rfl⟩
            rw [Int.toNat_natCast] at eo hzb
            have hk1 : ¬ kd = 1 := by rw [← hkd]; exact hzb.2.2
            have e1 : (ordO 3 os).getD (an + j) (0, 0) = (kd, kv) := by rw [eo, ← hkd, ← hkv]
            rw [hkd] at y0
            rw [hkv] at y1
            obtain ⟨Z, hZ⟩ : ∃ Z, (runS m (l, bs) ((ordO 3 os).take (an + j))).1 = Z := ⟨_, rfl⟩
            obtain ⟨B, hB⟩ : ∃ B, (runS m (l, bs) ((ordO 3 os).take (an + j))).2 = B := ⟨_, rfl⟩
            have hot := others_told bs os (by rw [HL.out]; exact hkn) (show runS m (l, bs) ((ordO 3 os).take (an + j)) = (Z, B) by rw [← hZ, ← hB]) e1
            rw [hZ] at s1
            rw [hB] at c1
            have CD := Lib.hid (takenAny s1 kd kv hk1)
            have HPK := Lib.hid (show placeK (ordL 3 os) (runT 3 m (vals l) (ordO 3 os)) n (an + j + 1) = (placeK (ordL 3 os) (runT 3 m (vals l) (ordO 3 os)) n (an + j)).set pl (hpC m (vals Z) kd, hpV (vals Z) kd) by
              rw [← hot.1, show pl = ((ordL 3 os).getD (an + j) 0).toNat by rw [hzo, Int.toNat_natCast]]
              rfl)
            have est : stS m (Z, B) (kd, kv) = ((if kd = 2 then Z.tail else Z), B) := by
              unfold stS
              rw [if_neg hk1]
              split <;> rfl
            have HRS := Lib.hid (hot.2.trans est)
            obtain ⟨rc, hrc⟩ : ∃ x, hpC m (vals Z) kd = x := ⟨_, rfl⟩
            obtain ⟨rv, hrv⟩ : ∃ x, hpV (vals Z) kd = x := ⟨_, rfl⟩
            rw [hrc, hrv] at CD HPK
            have HN := Lib.hid (fun (w2 : World) (d : DidSO F2 sp m (if kd = 2 then Z.tail else Z) wr w2) => SrtAt.put (i := pl) (c := rc) (x := rv) rr nF nG hw lF lG (DidP.left (m := m) c1 a1 d))
            have i1 : (j : Int) < on := by omega
            have p1 : (pl : Int) < n := by omega
            clear hrk hok lc hzb hz hzo eo hc hkd hkv e1 hZ hB hot hrc hrv s1 c1 a1 rr nF nG hw lF lG hjO est
            go_wp2_with fail
            refine CD.out.mono ?_
            rintro e w7 ⟨rfl, d⟩
            obtain ⟨r2, hn2⟩ := HN.out w7 d
            have HNx := Lib.hid hn2
            obtain ⟨c0, c1⟩ := r2.cells (i := pl) (by rw [placeK_length]; exact hpn)
            have fz := r2.free
            clear d hn2 r2 CD HN y0 y1 cz
            go_wp2
            go_roundw
            case rel => exact ⟨j + 1, by omega, by go_num, by rw [show an + (j + 1) = an + j + 1 by omega, HRS.out, HPK.out]; exact HNx.out⟩
            case measure => simp [intOf]; omega
          · obtain rfl : on = j := by omega
            have hen : an + on = n := by have := HLL.out; have := HAN.out; have := HON.out; omega
            rw [hen] at hr
            have HF := Lib.hid (SrtAt.post (w := w) (os := os) (s0 := (l, bs)) hr (by have := HBB.out; have := HW0.out.size; have := HB1.out.size; have := HSZ.out; omega) (batS_end m (l, bs) os (by rw [HL.out]; exact Nat.le_refl _)) (by unfold batT; rw [HL.out]) HW0.out HLF.out.1 HLF.out.2)
            rw [HL.out] at HF
            clear hr hlt hen
            go_wp2
            go_ret
            exact HF.out
end

end Go.Proofs.YtikaoikladbdpaaGreat
namespace Go.Proofs.YtikaoikladbdpaaGreat
open Go.RowKit Go.Lib

section
variable {w W w' : World} {F G : Nat → Prop} {p q n : Nat} {m : Int} {zs : List Int} {os : List (Int × Int)} {e : Ending}
theorem K9.ApplyPost.from {sp : Option Nat} (hb : Below w.heap.size w W) (h : K9.ApplyPost W F sp m zs os n e w') : K9.ApplyPost w F sp m zs os n e w' := by
  obtain ⟨gt, F', he, r, s, wr, l, g, hn⟩ := h
  exact ⟨gt, F', he, r, s, (Wrote.of hb F).trans wr, fun g hg => (l g hg).imp id (fun h => Nat.le_trans hb.size h), Nat.le_trans hb.size g, hn⟩
theorem SrtPost.from {sp : Option Nat} {s : List It × List Bool} (hb : Below w.heap.size w W) (h : SrtPost W F G sp q m s os e w') : SrtPost w F G sp q m s os e w' := by
  obtain ⟨b, F', G', he, r, hg, s1, c1, ap, n1, n2, wr, lF, lG⟩ := h
  exact ⟨b, F', G', he, r, Nat.le_trans hb.size hg, s1, c1, ap, n1, n2, (Wrote.of hb _).trans wr, fun g hg => (lF g hg).imp id (fun h => Nat.le_trans hb.size h), fun g hg => (lG g hg).imp id (fun h => Nat.le_trans hb.size h)⟩
theorem holdBox (w : World) (p : Nat) (t : TypeId) : ∀ W, w.alloc (.cells #[.pointer (some ⟨p, 0, none⟩)] t) = W → Below w.heap.size w W ∧ W.cell? ⟨w.heap.size, 0, none⟩ = some (.pointer (some ⟨p, 0, none⟩)) := by
  rintro W rfl
  exact ⟨(Below.refl _ _).alloc (Nat.le_refl _) _, by simp⟩

set_option maxRecDepth 100000 in
set_option maxHeartbeats 1600000 in
theorem pileBatch (h : K9.Stk w F p m zs) (c : Value) (ao : Option Addr) (cap : Nat) (ho : OpsAt w ao n os) (hoff : 0 < n → Off F ao) (hn : n ≤ 1000000) :
    Calls Tryz.prog 156 #[.agg #[.pointer (some ⟨p, 0, none⟩)], c, .slice ao n cap] w (K9.ApplyPost w F (some p) m zs os n) := by
  have HX := Lib.hid (fun W (hb : Below w.heap.size w W) => (K9.applyAny (sp := some p) (h.fresh hb) (fun g hg => Nat.lt_of_lt_of_le (h.foot g hg) hb.size) ao n cap os (ho.keep hb) hoff hn).mono fun e w' hp => K9.ApplyPost.from hb hp)
  clear h ho hoff hn
  go_enter Tryz.func156, Tryz.ntmps156
  go_upto_region 1 with (fail)
  generalize hW : w.alloc (.cells #[.pointer (some ⟨p, 0, none⟩)] 135) = W
  obtain ⟨hb, c0⟩ := holdBox w p _ W hW
  have C := HX.out W hb
  clear HX hW hb
  go_wp2_with fail
  refine C.mono ?_
  clear C c0
  rintro e w1 hp
  have HP := Lib.hid hp
  obtain ⟨gt, F', rfl, _⟩ := hp
  go_wp2
  go_ret
  exact HP.out

set_option maxRecDepth 100000 in
set_option maxHeartbeats 1600000 in
theorem rowBatch (h : D10.Rng w F p m zs) (c : Value) (ao : Option Addr) (cap : Nat) (ho : OpsAt w ao n os) (hoff : 0 < n → Off F ao) (hn : n ≤ 1000000) :
    Calls Tryz.prog 181 #[.agg #[.pointer (some ⟨p, 0, none⟩)], c, .slice ao n cap] w (D10.ComePost w F (some p) m zs os n) := by
  have HX := Lib.hid (fun W (hb : Below w.heap.size w W) => (D10.applyAny (sp := some p) (h.fresh hb) (fun g hg => Nat.lt_of_lt_of_le (h.foot g hg) hb.size) ao n cap os (ho.keep hb) hoff hn).mono fun e w' hp => D10.ComePost.from hb hp)
  clear h ho hoff hn
  go_enter Tryz.func181, Tryz.ntmps181
  go_upto_region 1 with (fail)
  generalize hW : w.alloc (.cells #[.pointer (some ⟨p, 0, none⟩)] 139) = W
  obtain ⟨hb, c0⟩ := holdBox w p _ W hW
  have C := HX.out W hb
  clear HX hW hb
  go_wp2_with fail
  refine C.mono ?_
  clear C c0
  rintro e w1 hp
  have HP := Lib.hid hp
  obtain ⟨gt, F', rfl, _⟩ := hp
  go_wp2
  go_ret
  exact HP.out

set_option maxRecDepth 100000 in
set_option maxHeartbeats 1600000 in
theorem heapBatch {s : List It × List Bool} (h : SkO w F (some p) m s.1) (c : Coin w G q s.2) (ap : Apart F G) (ao : Option Addr) (cap : Nat) (ho : OpsAt w ao n os) (hoF : 0 < n → Off F ao) (hoG : 0 < n → Off G ao) (hn : n ≤ 1000) :
    Calls Tryz.prog 211 #[.agg #[.pointer (some ⟨p, 0, none⟩)], .pointer (some ⟨q, 0, none⟩), .slice ao n cap] w (SrtPost w F G (some p) q m s os) := by
  obtain ⟨l, bs⟩ := s
  have HX := Lib.hid (fun W (hb : Below w.heap.size w W) => (applyAny (h.fresh hb) (c.fresh hb) ap ao n cap os (ho.keep hb) hoF hoG hn).mono fun e w' hp => SrtPost.from hb hp)
  clear h ho hoF hoG hn c
  go_enter Tryz.func211, Tryz.ntmps211
  go_upto_region 1 with (fail)
  generalize hW : w.alloc (.cells #[.pointer (some ⟨p, 0, none⟩)] 143) = W
  obtain ⟨hb, c0⟩ := holdBox w p _ W hW
  have C := HX.out W hb
  clear HX hW hb
  go_wp2_with fail
  refine C.mono ?_
  clear C c0
  rintro e w1 hp
  have HP := Lib.hid hp
  obtain ⟨gt, F', G', rfl, _⟩ := hp
  go_wp2
  go_ret
  exact HP.out

set_option maxRecDepth 100000 in
set_option maxHeartbeats 1600000 in
theorem heapEach {s : List It × List Bool} (h : SkO w F (some p) m s.1) (c : Coin w G q s.2) (ap : Apart F G) (ao : Option Addr) (cap : Nat) (ho : OpsAt w ao n os) (hoF : 0 < n → Off F ao) (hoG : 0 < n → Off G ao) (hn : n ≤ 1000) :
    Calls Tryz.prog 212 #[.agg #[.pointer (some ⟨p, 0, none⟩)], .pointer (some ⟨q, 0, none⟩), .slice ao n cap] w (SrtPost w F G (some p) q m s os) := by
  obtain ⟨l, bs⟩ := s
  have HX := Lib.hid (fun W (hb : Below w.heap.size w W) => (plainAny (h.fresh hb) (c.fresh hb) ap ao n cap os (ho.keep hb) hoF hoG hn).mono fun e w' hp => SrtPost.from hb hp)
  clear h ho hoF hoG hn c
  go_enter Tryz.func212, Tryz.ntmps212
  go_upto_region 1 with (fail)
  generalize hW : w.alloc (.cells #[.pointer (some ⟨p, 0, none⟩)] 143) = W
  obtain ⟨hb, c0⟩ := holdBox w p _ W hW
  have C := HX.out W hb
  clear HX hW hb
  go_wp2_with fail
  refine C.mono ?_
  clear C c0
  rintro e w1 hp
  have HP := Lib.hid hp
  obtain ⟨gt, F', G', rfl, _⟩ := hp
  go_wp2
  go_ret
  exact HP.out
end

end Go.Proofs.YtikaoikladbdpaaGreat
