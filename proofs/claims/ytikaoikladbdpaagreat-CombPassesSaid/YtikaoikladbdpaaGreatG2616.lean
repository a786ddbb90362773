/-
  serve of reaperlaw16: who serves, step by step, till it sweeps; all items that were done. Conditions: a memory and an object as MO says; at most a thousand steps. Contracts of package list: cell, see, from, all, stale. Conditions: a memory as Mem1 says.
-/
import Derived.Test.YtikaoikladbdpaaGreatG2516
import Derived.Test.YtikaoikladbdpaaGreatG2416
namespace Go.Proofs.YtikaoikladbdpaaGreat.M2
open Go.RowKit

def G3 (p : Nat) (v : Value) (F : Nat → Prop) (q : Nat) : Prop := q = p ∨ v.ownBlock = some q ∨ F q
def StepM3 (w : World) (p : Nat) (v : Value) (size : Int) (F : Nat → Prop) (o : Nat) (k m : Int) (pl : Bool) (S : SS) (a : World) (e : Ending) (b : World) : Prop :=
  ∃ v' F' x d, e = .returned (.tuple #[thV S.t x, d]) ∧ MO w p v' size S.zs S.c F' o k m pl S.s b ∧ BR a.heap.size b x S.l ∧ BR a.heap.size b d S.dn ∧ (∀ g, x.ownBlock = some g → ¬ F' g) ∧ (∀ g, d.ownBlock = some g → ¬ F' g) ∧ Kp F a b ∧ _root_.Go.Proofs.YtikaoikladbdpaaGreat.Later F F' a ∧ _root_.Go.Proofs.YtikaoikladbdpaaGreat.Wrote (G3 p v F) a b ∧ ∀ g, v'.ownBlock = some g → v.ownBlock = some g ∨ a.heap.size ≤ g

section
variable {w a b : World} {p o n cap : Nat} {v : Value} {size : Int} {zs zs' : List Int} {st st' : Int} {F F' : Nat → Prop} {k m : Int} {pl : Bool} {s s' : List It × List Bool} {l : List It3}
theorem stepM3 (h : MO w p v size zs st F o k m pl s a) (pa : Int) (t : Th) (ao : Option Addr) (hi : Its a ao n l) (hc : ao = none → cap = 0) (hl : l.length ≤ 1000) (k0 : 0 ≤ st) (k1 : st < 1000000) (dn : List It3) :
    Calls Tryz.prog 18 #[.pointer (some ⟨p, 0, none⟩), .pointer (some ⟨o, 0, none⟩), .int .i64 pa, thV t (.slice ao n cap)] a (StepM3 w p v size F o k m pl (ssStep pa k m ⟨t, l, zs, st, s, dn⟩) a) := by
  by_cases hp : t.pc = 36
  · have e : ssStep pa k m ⟨t, l, zs, st, s, dn⟩ = ⟨{ t with nt := 0, pc := 37 }, doL k m s l, zs, st, objS k m s (opsW l), doL k m s l⟩ := if_pos hp
    rw [e]
    refine (stepD a h.ob h.v32 pa t ao n cap l hi hc hl hp).mono ?_
    rintro e b ⟨x, d, F', rfl, r1, r2, o', n1, n2, wr, lt⟩
    exact ⟨v, F', x, d, rfl, h.done o' (objS_ok h.v32 (opsW_ok l)) wr lt, r1, r2, n1, n2, Kp.wrote wr, lt, ⟨wr.os, wr.tape, wr.output, wr.size, fun q hq hn => wr.block q hq (fun e => hn (.inr (.inr e)))⟩, fun g hg => .inl hg⟩
  · have e : ssStep pa k m ⟨t, l, zs, st, s, dn⟩ = ⟨(cst pa t zs l).t, (cst pa t zs l).l, (cst pa t zs l).zs, st + (cst pa t zs l).c, s, []⟩ := if_neg hp
    rw [e]
    refine (stepC a h.me pa t ao n cap l hi hc hl hp k0 k1).mono ?_
    rintro e b ⟨x, rfl, r1, d⟩
    have kp := h.kp d
    obtain ⟨v', m', wr, lt⟩ := d
    obtain ⟨v'', h'⟩ := h.did ⟨v', m', wr, lt⟩
    have hv : v'' = v' := by
      have e1 := h'.me.block
      have e2 := m'.block
      rw [e1] at e2
      simp only [Option.some.injEq, Obj.cells.injEq, and_true] at e2
      have := congrArg (fun a : Array Value => a[1]?) e2
      simpa using this
    subst hv
    exact ⟨v'', F, x, _, rfl, h', r1, BR.nil _ _, fun g hg hf => by have := (r1.lt g hg).1; have := h.ob.foot g hf; omega, fun g hg => by simp [Value.ownBlock] at hg, kp, _root_.Go.Proofs.YtikaoikladbdpaaGreat.Later.refl _ _, ⟨wr.os, wr.tape, wr.output, wr.size, fun q hq hn => wr.block q hq (fun e => hn (.inl e)) (fun e => hn (.inr (.inl e)))⟩, lt⟩
end

theorem wpList_append_srcL {P : Program} (w : World) {ops : Array Oper} {rest : List Oper} {o : Oper} {a : Act} {Q : Exit → Act → World → Prop} (hgd : o.guard = none) (s x : Operand) (t : TypeId)
    (ho : o.op = .call { callee := .builtin .append, args := #[s, x], argTypes := #[t, t] })
    (base : Nat) (e : TypeId) (i : TypeInfo) (z : Value) (size bytes : Nat) (ht : P.underlying t = some (.slice e)) (hi : P.info? e = some i) (hz : i.zero = some z)
    (hsize : i.size = size) (hby : i.bytes = bytes) (hzs : z.cells.size = size) (hsz : 0 < size)
    (v : Value) (n : Nat) (xs : List Value) (hs : a.eval s = v) (hown : w.ownsRow base e size v n xs)
    (A : Option Addr) (m c : Nat) (news : List Value) (hx : a.eval x = .slice A m c) (hl : news.length = m * size) (hnews : 0 < m → ∃ ad, A = some ad ∧ ∀ j u, news[j]? = some u → w.cell? (ad.add j) = some u) (h1 : ∀ u ∈ news, u.oneCell' = true)
    (h63 : n + m ≤ maxLen) (hbytes : (n + m) * bytes ≤ 140737488355328) (hbase : base ≤ w.heap.size)
    (h : ∀ v' w', w'.ownsRow base e size v' (n + m) (xs ++ news) → w.grownBy w' v.ownBlock → (∀ g, v'.ownBlock = some g → v.ownBlock = some g ∨ w.heap.size ≤ g) → wpList P ops Q rest (a.put o.dst v') w') : wpList P ops Q (o :: rest) a w := by
  cases A with
  | some ad =>
    refine wpList_append_later hgd s x t ho base e i z size bytes ht hi hz hsize hby hzs hsz v n xs hs hown ad m c news hx hl ?_ h1 h63 hbytes hbase h
    rcases Nat.eq_zero_or_pos m with h0 | h0
    · subst h0
      have hn : news = [] := List.eq_nil_of_length_eq_zero (by simpa using hl)
      subst hn
      intro j u hu
      simp at hu
    · obtain ⟨ad', e', hc⟩ := hnews h0
      injection e' with e'
      subst e'
      exact hc
  | none =>
    have hm : m = 0 := by
      rcases Nat.eq_zero_or_pos m with h0 | h0
      · exact h0
      · obtain ⟨_, e', _⟩ := hnews h0
        cases e'
    subst hm
    have hn : news = [] := List.eq_nil_of_length_eq_zero (by simpa using hl)
    subst hn
    refine wpList_plain hgd fun K hK => ?_
    have hrun := run_append_nothing (P := P) w base t o.type e i size ht hi v n xs hown c
    unfold Oper.wp
    simp [execOp, ho, resolve, invoke, builtin, hs, hx, hrun, Result.andThen]
    exact hK _ _ (h v w (by simpa using hown) ⟨rfl, rfl, rfl, Nat.le_refl _, fun _ _ _ => rfl⟩ (fun g hg => .inl hg))
theorem fi_append (x y : List It3) : fi (x ++ y) = fi x ++ fi y := by simp [fi]
theorem MO.grew {w a b : World} {p o : Nat} {v : Value} {size : Int} {zs : List Int} {st : Int} {F : Nat → Prop} {k m : Int} {pl : Bool} {s : List It × List Bool} {M : Nat} {av : Value} {l : List It3} (h : MO w p v size zs st F o k m pl s a) (r : BR M a av l) (hM : w.heap.size ≤ M) (hF : ∀ g, av.ownBlock = some g → ¬ F g) (hg : a.grownBy b av.ownBlock) : MO w p v size zs st F o k m pl s b := by
  cases e : av.ownBlock with
  | none =>
    rw [e] at hg
    exact h.fresh ⟨hg.os, hg.tape, hg.output, hg.size, fun q hq => hg.block q hq (by simp)⟩
  | some g =>
    rw [e] at hg
    obtain ⟨cs, hc⟩ := r.block e
    exact h.box hc (by decide) (by decide) (hF g e) (Nat.le_trans hM (r.lt g e).1) ⟨hg.os, hg.tape, hg.output, hg.size, fun q hq hne => hg.block q hq (fun e2 => hne (by injection e2))⟩

def goS (pa k m : Int) (S : SS) : Nat → SS
  | 0 => S
  | j + 1 => ssStep pa k m (goS pa k m S j)
def alS (pa k m : Int) (S : SS) : Nat → List It3
  | 0 => []
  | j + 1 => alS pa k m S j ++ (goS pa k m S (j + 1)).dn

structure SvI (w a : World) (p o gt g8 : Nat) (v0 : Value) (F0 : Nat → Prop) (size k m : Int) (pl : Bool) (c0 : Int) (j : Nat) (S : SS) (al : List It3) (av : Value) (wr : World) : Prop where
  mo : ∃ v F x, MO w p v size S.zs S.c F o k m pl S.s wr ∧ TX wr gt S.t x ∧ BR a.heap.size wr x S.l ∧ ¬ F gt ∧ ¬ F g8 ∧ (∀ g, x.ownBlock = some g → ¬ F g) ∧ (∀ g, av.ownBlock = some g → ¬ F g) ∧ _root_.Go.Proofs.YtikaoikladbdpaaGreat.Later F0 F a ∧ (∀ g, v.ownBlock = some g → v0.ownBlock = some g ∨ a.heap.size ≤ g)
  wt : _root_.Go.Proofs.YtikaoikladbdpaaGreat.Wrote (G3 p v0 F0) a wr
  ar : BR a.heap.size wr av al
  z : TX wr g8 t0 (.slice none 0 0)
  lo : a.heap.size ≤ gt
  lo8 : a.heap.size ≤ g8
  ne : g8 ≠ gt
  ll : S.l.length ≤ j
  cc : c0 ≤ S.c ∧ S.c ≤ c0 + (j : Int)
  la : al.length ≤ 1000 * j

def SvRel (w a : World) (p o gt g8 : Nat) (v0 : Value) (F0 : Nat → Prop) (size k m : Int) (pl : Bool) (pa c0 : Int) (st : Nat) (S : SS) (av kv : Value) (wr : World) : Prop :=
  ∃ j : Nat, j ≤ st ∧ kv = .int .i64 (j : Int) ∧ (∀ i, i < j → srv (goS pa k m S i) = true) ∧ SvI w a p o gt g8 v0 F0 size k m pl c0 j (goS pa k m S j) (alS pa k m S j) av wr

def ServePost (w : World) (p o : Nat) (v0 : Value) (F0 : Nat → Prop) (size k m : Int) (pl : Bool) (pa : Int) (st : Nat) (S : SS) (a : World) (e : Ending) (b : World) : Prop :=
  ∃ j, j ≤ st ∧ (∀ i, i < j → srv (goS pa k m S i) = true) ∧ (j = st ∨ srv (goS pa k m S j) = false) ∧ ∃ v F x av, e = .returned (.tuple #[thV (goS pa k m S j).t x, av]) ∧ MO w p v size (goS pa k m S j).zs (goS pa k m S j).c F o k m pl (goS pa k m S j).s b ∧ BR a.heap.size b x (goS pa k m S j).l ∧ BR a.heap.size b av (alS pa k m S j) ∧ (∀ g, av.ownBlock = some g → ¬ F g) ∧ _root_.Go.Proofs.YtikaoikladbdpaaGreat.Wrote (G3 p v0 F0) a b ∧ _root_.Go.Proofs.YtikaoikladbdpaaGreat.Later F0 F a ∧ (∀ g, v.ownBlock = some g → v0.ownBlock = some g ∨ a.heap.size ≤ g)

set_option maxRecDepth 100000 in
set_option maxHeartbeats 16000000 in
theorem serveAny {w : World} {p o : Nat} {v0 : Value} {size : Int} {zs : List Int} {c : Int} {F0 : Nat → Prop} {k m : Int} {pl : Bool} {s : List It × List Bool} (a : World) (h : MO w p v0 size zs c F0 o k m pl s a) (pa : Int) (st : Nat) (hst : st ≤ 1000) (hc0 : 0 ≤ c) (hc1 : c ≤ 10000) :
    Calls Tryz.prog 27 #[.pointer (some ⟨p, 0, none⟩), .pointer (some ⟨o, 0, none⟩), .int .i64 pa, .int .i64 (st : Int)] a (ServePost w p o v0 F0 size k m pl pa st ⟨{ t0 with pc := 20 }, [], zs, c, s, []⟩ a) := by
  obtain ⟨i0, hi, hz0, hz1, hz2⟩ := info_parts infoItem
  have HI := Lib.hid hi
  have H0 := Lib.hid hz0
  have H1 := Lib.hid hz1
  have H2 := Lib.hid hz2
  have HM := Lib.hid h
  clear h hi hz0 hz1 hz2
  go_enter Tryz.func27, Tryz.ntmps27
  go_upto_region 2 with (fail)
  obtain ⟨V, hV⟩ : ∃ V, (a.alloc (.cells #[.int .i64 0, .int .i64 0, .int .i64 0, .int .i64 0, .int .i64 0, .int .i64 0, .int .i64 0, .int .i64 0, .int .i64 0, .int .i64 0, .int .i64 0, .int .i64 0, .slice none 0 0] 25)).alloc (.cells #[.int .i64 0, .int .i64 20, .int .i64 0, .int .i64 0, .int .i64 0, .int .i64 0, .int .i64 0, .int .i64 0, .int .i64 0, .int .i64 0, .int .i64 0, .int .i64 0, .slice none 0 0] 25) = V := ⟨_, rfl⟩
  rw [hV]
  have hb1 : Below a.heap.size a V := by rw [← hV]; exact ((Below.refl _ _).alloc (Nat.le_refl _) _).alloc (by simp) _
  have z8 : TX V a.heap.size t0 (.slice none 0 0) := by rw [← hV]; exact (TX.new a t0 (.slice none 0 0)).alloc _
  have x1 : TX V (a.heap.size + 1) { t0 with pc := 20 } (.slice none 0 0) := by
    have := TX.new (a.alloc (.cells #[.int .i64 0, .int .i64 0, .int .i64 0, .int .i64 0, .int .i64 0, .int .i64 0, .int .i64 0, .int .i64 0, .int .i64 0, .int .i64 0, .int .i64 0, .int .i64 0, .slice none 0 0] 25)) { t0 with pc := 20 } (.slice none 0 0)
    rw [← hV]
    simpa [t0] using this
  have hstart : SvRel w a p o (a.heap.size + 1) a.heap.size v0 F0 size k m pl pa c st ⟨{ t0 with pc := 20 }, [], zs, c, s, []⟩ (.slice none 0 0) (.int .i64 0) V :=
    ⟨0, Nat.zero_le _, rfl, fun i hi => absurd hi (Nat.not_lt_zero _), ⟨v0, F0, .slice none 0 0, HM.out.fresh hb1, x1, BR.nil _ _, fun hf => by have := HM.out.ob.foot _ hf; omega, fun hf => by have := HM.out.ob.foot _ hf; omega, fun g hg => by simp [Value.ownBlock] at hg, fun g hg => by simp [Value.ownBlock] at hg, _root_.Go.Proofs.YtikaoikladbdpaaGreat.Later.refl _ _, fun g hg => .inl hg⟩,
      _root_.Go.Proofs.YtikaoikladbdpaaGreat.Wrote.of hb1 _, BR.nil _ _, z8, Nat.le_succ _, Nat.le_refl _, by omega, Nat.le_refl _, ⟨Int.le_refl _, by show c ≤ c + ((0 : Nat) : Int); omega⟩, Nat.zero_le _⟩
  have HST := Lib.hid hstart
  clear hV hb1 z8 x1 hstart
  obtain ⟨S0, hS0⟩ : ∃ S0 : SS, S0 = ⟨{ t0 with pc := 20 }, [], zs, c, s, []⟩ := ⟨_, rfl⟩
  rw [← hS0] at HST
  have HS0 := Lib.hid hS0
  clear hS0
  obtain ⟨gt, hgt⟩ : ∃ gt, gt = a.heap.size + 1 := ⟨_, rfl⟩
  rw [← hgt] at HST ⊢
  clear hgt
  obtain ⟨g8, hg8⟩ : ∃ g8, g8 = a.heap.size := ⟨_, rfl⟩
  have HG8 := Lib.hid hg8
  clear hg8
  go_wp2_with fail
  go_loopw [11, 12] (fun av kv wr => SvRel w a p o gt a.heap.size v0 F0 size k m pl pa c st S0 av kv wr) (fun _ kv _ => st - (intOf kv).toNat)
  case atStart => exact HST.out
  case round =>
    obtain ⟨j, hj, rfl, hsv, hI⟩ := hrel
    clear HST
    obtain ⟨S, hS⟩ : ∃ S, goS pa k m S0 j = S := ⟨_, rfl⟩
    obtain ⟨al, hal⟩ : ∃ al, alS pa k m S0 j = al := ⟨_, rfl⟩
    rw [hS, hal] at hI
    have HSE := Lib.hid (And.intro hS hal)
    have HSV := Lib.hid hsv
    clear hS hal hsv
    obtain ⟨⟨v, F, x, mo, tx, br, nF, n8, nb, na, lt, lv⟩, wt, ar, z, lo, lo8, ne, ll, cc, la⟩ := hI
    obtain ⟨ax, cx, rfl, its, _, hc, _⟩ := br.its
    obtain ⟨av1, cv1, rfl, hav⟩ := ar.shape
    obtain ⟨nx, hnx⟩ : ∃ nx, S.l.length = nx := ⟨_, rfl⟩
    rw [hnx] at its tx br nb
    obtain ⟨T, hT⟩ : ∃ T, S.t = T := ⟨_, rfl⟩
    rw [hT] at tx
    have HG := Lib.hid (And.intro mo (And.intro tx (And.intro br (And.intro nF (And.intro n8 (And.intro nb (And.intro na (And.intro lt lv))))))))
    have HJ := Lib.hid (And.intro its hc)
    have HK := Lib.hid (And.intro wt (And.intro ar z))
    have HN := Lib.hid (And.intro lo (And.intro lo8 (And.intro ne (And.intro ll (And.intro cc la)))))
    have HTE := Lib.hid (And.intro hT hnx)
    clear mo br nF n8 nb na lt lv its hc wt ar z lo lo8 ne ll cc la hT hnx hav
    by_cases hlt : j < st
    · have hlt' : (j : Int) < (st : Int) := by omega
      have A := servesO wr T (.slice ax nx cx) ⟨_, _, _, rfl⟩
      rw [show thV T (.slice ax nx cx) = .agg #[.int .i64 T.ti, .int .i64 T.pc, .int .i64 T.rc, .int .i64 T.sq, .int .i64 T.wo, .int .i64 T.lk, .int .i64 T.cu, .int .i64 T.pv, .int .i64 T.nt, .int .i64 T.mx, .int .i64 T.ps, .int .i64 T.rn, .slice ax nx cx] from rfl] at A
      have HA := Lib.hid A
      have t0 := tx.c0
      have t1 := tx.c1
      have t2 := tx.c2
      have t3 := tx.c3
      have t4 := tx.c4
      have t5 := tx.c5
      have t6 := tx.c6
      have t7 := tx.c7
      have t8 := tx.c8
      have t9 := tx.c9
      have t10 := tx.c10
      have t11 := tx.c11
      have t12 := tx.c12
      clear A tx hlt
      go_wp2_with fail
      with_reducible refine HA.out.mono ?_
      clear HA t0 t1 t2 t3 t4 t5 t6 t7 t8 t9 t10 t11 t12
      rintro e w5 ⟨rfl, b5⟩
      have HB5 := Lib.hid b5
      clear b5
      by_cases hs : 20 ≤ T.pc ∧ T.pc ≤ 39
      · rw [decide_eq_true hs]
        have HSP := Lib.hid hs
        have mo5 := HG.out.1.fresh HB5.out
        have tx5 := HG.out.2.1.keep HB5.out
        have its5 := HJ.out.1.keep HB5.out
        have bd : S.l.length ≤ 1000 ∧ 0 ≤ S.c ∧ S.c ≤ 20000 := by have := HN.out; omega
        have C := stepM3 mo5 pa S.t ax (cap := cx) its5 HJ.out.2 bd.1 bd.2.1 (by omega) S.dn
        rw [HTE.out.1] at C
        rw [show (⟨T, S.l, S.zs, S.c, S.s, S.dn⟩ : SS) = S by rw [← HTE.out.1]] at C
        rw [show thV T (.slice ax nx cx) = .agg #[.int .i64 T.ti, .int .i64 T.pc, .int .i64 T.rc, .int .i64 T.sq, .int .i64 T.wo, .int .i64 T.lk, .int .i64 T.cu, .int .i64 T.pv, .int .i64 T.nt, .int .i64 T.mx, .int .i64 T.ps, .int .i64 T.rn, .slice ax nx cx] from rfl] at C
        have HC := Lib.hid C
        have t0 := tx5.c0
        have t1 := tx5.c1
        have t2 := tx5.c2
        have t3 := tx5.c3
        have t4 := tx5.c4
        have t5 := tx5.c5
        have t6 := tx5.c6
        have t7 := tx5.c7
        have t8 := tx5.c8
        have t9 := tx5.c9
        have t10 := tx5.c10
        have t11 := tx5.c11
        have t12 := tx5.c12
        clear C mo5 tx5 its5 hs
        go_wp2_with fail
        with_reducible refine HC.out.mono ?_
        clear HC t0 t1 t2 t3 t4 t5 t6 t7 t8 t9 t10 t11 t12
        rintro e w6 ⟨v6, F6, x6, d6, rfl, mo6, br6, dr6, n6, nd6, kp6, lt6, wt6, lv6⟩
        obtain ⟨S1, hS1⟩ : ∃ S1, S1 = ssStep pa k m S := ⟨_, rfl⟩
        rw [← hS1] at mo6 br6 dr6 ⊢
        obtain ⟨ax6, cx6, hx6, _⟩ := br6.shape
        subst hx6
        obtain ⟨ad6, cd6, hd6, dits, hlow, _, _⟩ := dr6.its
        subst hd6
        obtain ⟨T1, hT1⟩ : ∃ T1, T1 = S1.t := ⟨_, rfl⟩
        rw [← hT1]
        rw [show thV T1 (.slice ax6 S1.l.length cx6) = .agg #[.int .i64 T1.ti, .int .i64 T1.pc, .int .i64 T1.rc, .int .i64 T1.sq, .int .i64 T1.wo, .int .i64 T1.lk, .int .i64 T1.cu, .int .i64 T1.pv, .int .i64 T1.nt, .int .i64 T1.mx, .int .i64 T1.ps, .int .i64 T1.rn, .slice ax6 S1.l.length cx6] from rfl]
        have tx6 : TX w6 gt T (.slice ax nx cx) := (HG.out.2.1.keep HB5.out).kp kp6 HG.out.2.2.2.1
        have old6 : ∀ g, g < w5.heap.size → ¬ F g → ¬ F6 g := fun g hg hF hf => by
          rcases lt6 g hf with h1 | h1
          · exact hF h1
          · omega
        have nF6 : ¬ F6 gt := old6 gt (HG.out.2.1.keep HB5.out).lt HG.out.2.2.2.1
        have n86 : ¬ F6 a.heap.size := old6 _ (HK.out.2.2.keep HB5.out).lt HG.out.2.2.2.2.1
        have na6 : ∀ g, (Value.slice av1 al.length cv1).ownBlock = some g → ¬ F6 g := fun g hg => old6 g ((HK.out.2.1.below HB5.out).lt g hg).2 (HG.out.2.2.2.2.2.2.1 g hg)
        have ar6 := (HK.out.2.1.below HB5.out).kp kp6 HG.out.2.2.2.2.2.2.1
        have z6 := (HK.out.2.2.keep HB5.out).kp kp6 HG.out.2.2.2.2.1
        have sza : a.heap.size ≤ w5.heap.size := Nat.le_trans HK.out.1.size HB5.out.size
        have ltA : _root_.Go.Proofs.YtikaoikladbdpaaGreat.Later F0 F6 a := fun g hg => by
          rcases lt6 g hg with h1 | h1
          · exact HG.out.2.2.2.2.2.2.2.1 g h1
          · exact .inr (Nat.le_trans sza h1)
        have lvA : ∀ g, v6.ownBlock = some g → v0.ownBlock = some g ∨ a.heap.size ≤ g := fun g hg => by
          rcases lv6 g hg with h1 | h1
          · exact HG.out.2.2.2.2.2.2.2.2 g h1
          · exact .inr (Nat.le_trans sza h1)
        have wtA : _root_.Go.Proofs.YtikaoikladbdpaaGreat.Wrote (G3 p v0 F0) a w6 := by
          have w1 := HK.out.1.trans (_root_.Go.Proofs.YtikaoikladbdpaaGreat.Wrote.of (HB5.out.mono (Nat.le_refl _)) (G3 p v0 F0))
          refine ⟨wt6.os.trans w1.os, wt6.tape.trans w1.tape, wt6.output.trans w1.output, Nat.le_trans w1.size wt6.size, fun q hq hn => (wt6.block q (Nat.lt_of_lt_of_le hq w1.size) (fun e => hn ?_)).trans (w1.block q hq hn)⟩
          rcases e with e | e | e
          · exact .inl e
          · rcases HG.out.2.2.2.2.2.2.2.2 q e with h1 | h1
            · exact .inr (.inl h1)
            · omega
          · rcases HG.out.2.2.2.2.2.2.2.1 q e with h1 | h1
            · exact .inr (.inr h1)
            · omega
        have H6 := Lib.hid (And.intro mo6 (And.intro br6 (And.intro n6 (And.intro nF6 (And.intro n86 (And.intro na6 (And.intro ltA lvA)))))))
        have HP := Lib.hid (And.intro tx6 (And.intro ar6 (And.intro z6 (And.intro wtA (And.intro dits sza)))))
        have HSS := Lib.hid (And.intro hS1 hT1)
        have HD := Lib.hid hlow
        clear mo6 br6 dr6 n6 nd6 kp6 lt6 wt6 lv6 tx6 nF6 n86 na6 ar6 z6 ltA lvA wtA dits hS1 hT1 old6 sza hlow
        go_upto_region 7 with (fail)
        obtain ⟨w7, hw7⟩ : ∃ w7, w6.alloc (.cells #[.int .i64 T1.ti, .int .i64 T1.pc, .int .i64 T1.rc, .int .i64 T1.sq, .int .i64 T1.wo, .int .i64 T1.lk, .int .i64 T1.cu, .int .i64 T1.pv, .int .i64 T1.nt, .int .i64 T1.mx, .int .i64 T1.ps, .int .i64 T1.rn, .slice ax6 S1.l.length cx6] 25) = w7 := ⟨_, rfl⟩
        rw [hw7]
        have hb7 : Below w6.heap.size w6 w7 := by rw [← hw7]; exact (Below.refl _ _).alloc (Nat.le_refl _) _
        have ux7 : TX w7 w6.heap.size T1 (.slice ax6 S1.l.length cx6) := by rw [← hw7]; exact TX.new w6 T1 _
        have tx7 := HP.out.1.keep hb7
        have HB7 := Lib.hid hb7
        have HT7 := Lib.hid tx7
        have hgt : ¬ gt = w6.heap.size := by have := HP.out.1.lt; omega
        have u0 := ux7.c0
        have u1 := ux7.c1
        have u2 := ux7.c2
        have u3 := ux7.c3
        have u4 := ux7.c4
        have u5 := ux7.c5
        have u6 := ux7.c6
        have u7 := ux7.c7
        have u8 := ux7.c8
        have u9 := ux7.c9
        have u10 := ux7.c10
        have u11 := ux7.c11
        have u12 := ux7.c12
        have t0 := tx7.c0
        have t1 := tx7.c1
        have t2 := tx7.c2
        have t3 := tx7.c3
        have t4 := tx7.c4
        have t5 := tx7.c5
        have t6 := tx7.c6
        have t7 := tx7.c7
        have t8 := tx7.c8
        have t9 := tx7.c9
        have t10 := tx7.c10
        have t11 := tx7.c11
        have t12 := tx7.c12
        have tf := tx7.f
        clear hw7 hb7 ux7 tx7
        go_upto_region 8 with (fail)
        clear u0 u1 u2 u3 u4 u5 u6 u7 u8 u9 u10 u11 u12 t0 t1 t2 t3 t4 t5 t6 t7 t8 t9 t10 t11 t12 tf
        obtain ⟨w8, hw8⟩ : ∃ w8, setT w7 gt T1 (.slice ax6 S1.l.length cx6) = w8 := ⟨_, rfl⟩
        have hw8' := hw8
        unfold setT at hw8'
        rw [hw8']
        clear hw8'
        have wtT := wroteT w7 gt T1 (.slice ax6 S1.l.length cx6)
        rw [hw8] at wtT
        have lo0 : w.heap.size ≤ gt := Nat.le_trans HM.out.b.size HN.out.1
        have mo8 : MO w p v6 size S1.zs S1.c F6 o k m pl S1.s w8 := (H6.out.1.fresh HB7.out).box HT7.out (by decide) (by decide) H6.out.2.2.2.1 lo0 wtT
        have tx8 : TX w8 gt T1 (.slice ax6 S1.l.length cx6) := by rw [← hw8]; exact HT7.out.all T1 _
        have br8 : BR w5.heap.size w8 (.slice ax6 S1.l.length cx6) S1.l := by rw [← hw8]; exact (H6.out.2.1.below HB7.out).setT HT7.out T1 _
        have ar8 : BR a.heap.size w8 (.slice av1 al.length cv1) al := by rw [← hw8]; exact (HP.out.2.1.below HB7.out).setT HT7.out T1 _
        have z8 : TX w8 a.heap.size t0 (.slice none 0 0) := (wtT.block _ (HP.out.2.2.1.keep HB7.out).lt (fun e => HN.out.2.2.1 e)).trans (HP.out.2.2.1.keep HB7.out)
        have wt8 : _root_.Go.Proofs.YtikaoikladbdpaaGreat.Wrote (G3 p v0 F0) a w8 := by
          have w1 := HP.out.2.2.2.1.trans (_root_.Go.Proofs.YtikaoikladbdpaaGreat.Wrote.of (HB7.out.mono (Nat.le_refl _)) (G3 p v0 F0))
          exact ⟨wtT.os.trans w1.os, wtT.tape.trans w1.tape, wtT.output.trans w1.output, Nat.le_trans w1.size wtT.size, fun q hq hn => (wtT.block q (Nat.lt_of_lt_of_le hq w1.size) (fun e => by have e : q = gt := e; have := HN.out.1; omega)).trans (w1.block q hq hn)⟩
        have di8 := (_root_.Go.Proofs.YtikaoikladbdpaaGreat.its_off (HP.out.2.2.2.2.1.keep HB7.out) (F := fun q => q = gt) (fun _ x hx e => by have e : x.block = gt := e; have := HD.out x hx; have := (HG.out.2.1.keep HB5.out).lt; omega) wtT).src
        have bdl : S1.dn.length ≤ 1000 ∧ al.length ≤ 1000000 ∧ S1.l.length ≤ j + 1 ∧ S.c ≤ S1.c ∧ S1.c ≤ S.c + 1 := by
          have h1 := ss_c pa k m S
          have h2 := ss_l pa k m S
          have h3 := ss_dn pa k m S
          rw [← HSS.out.1] at h1 h2 h3
          have := HN.out
          have h4 : 1000 * j ≤ 1000 * 1000 := Nat.mul_le_mul_left _ (by omega)
          omega
        have H8 := Lib.hid (And.intro mo8 (And.intro tx8 (And.intro br8 (And.intro ar8 (And.intro z8 wt8)))))
        have HBD := Lib.hid bdl
        have HL0 := Lib.hid lo0
        have HD8 := Lib.hid di8
        have HNL := Lib.hid (fi_length S1.dn)
        clear mo8 tx8 br8 ar8 z8 wt8 wtT di8 bdl lo0 hw8
        go_wp2_with (at_builtin; (refine wpList_append_srcL _ rfl (.tmp 34) (.tmp 35) 23 rfl a.heap.size 68 i0 _ 3 24 Tryz.underlying23 HI.out H0.out H1.out H2.out rfl (by decide) _ al.length (fi al) rfl H8.out.2.2.2.1 ad6 S1.dn.length cd6 (fi S1.dn) rfl HNL.out HD8.out (fi_one _) (by have := HBD.out; simp only [maxLen]; omega) (by have := HBD.out; omega) H8.out.2.2.2.2.2.size ?_; intro v9 w9 q9 g9 l9; have H9 := Lib.hid (And.intro q9 (And.intro g9 l9)); clear q9 g9 l9))
        have hst2 : (st : Int) ≤ 1000 := by omega
        go_roundw
        case rel =>
          have hA : BR a.heap.size w9 v9 (al ++ S1.dn) := by
            unfold BR
            rw [List.length_append, fi_append]
            exact H9.out.1
          have hg := H9.out.2.1
          have hty : ∀ {q : Nat} {cs : Array Value} {ty : TypeId}, w8.heap[q]? = some (Obj.cells cs ty (0, 0)) → ty ≠ 68 → w9.heap[q]? = w8.heap[q]? := fun {q cs ty} e hne => hg.block q (lt_of_block e) (fun e2 => by
            obtain ⟨cs', e'⟩ := H8.out.2.2.2.1.block e2.symm
            rw [e] at e'
            simp only [Option.some.injEq, Obj.cells.injEq] at e'
            exact hne e'.2.1)
          have mo9 := H8.out.1.grew H8.out.2.2.2.1 HM.out.b.size H6.out.2.2.2.2.2.1 hg
          have tx9 : TX w9 gt T1 (.slice ax6 S1.l.length cx6) := (hty H8.out.2.1 (by decide)).trans H8.out.2.1
          have z9 : TX w9 a.heap.size t0 (.slice none 0 0) := (hty H8.out.2.2.2.2.1 (by decide)).trans H8.out.2.2.2.2.1
          have br9 := H8.out.2.2.1.keep (w' := w9) (fun q hq => hg.block q (H8.out.2.2.1.lt q hq).2 (fun e2 => by have h1 := (H8.out.2.2.1.lt q hq).1; have h2 := ((HK.out.2.1.below HB5.out).lt q e2.symm).2; omega))
          have wt9 : _root_.Go.Proofs.YtikaoikladbdpaaGreat.Wrote (G3 p v0 F0) a w9 := by
            have w1 := H8.out.2.2.2.2.2
            exact ⟨hg.os.trans w1.os, hg.tape.trans w1.tape, hg.output.trans w1.output, Nat.le_trans w1.size hg.size, fun q hq hn => (hg.block q (Nat.lt_of_lt_of_le hq w1.size) (fun e2 => by have := (H8.out.2.2.2.1.lt q e2.symm).1; omega)).trans (w1.block q hq hn)⟩
          rw [HSS.out.2] at tx9
          have eS : goS pa k m S0 (j + 1) = S1 := by
            show ssStep pa k m (goS pa k m S0 j) = S1
            rw [HSE.out.1, HSS.out.1]
          have eA : alS pa k m S0 (j + 1) = al ++ S1.dn := by
            show alS pa k m S0 j ++ (goS pa k m S0 (j + 1)).dn = _
            rw [HSE.out.2, eS]
          refine ⟨j + 1, by omega, by go_num, fun i hi => ?_, ?_⟩
          · rcases (show i < j ∨ i = j by omega) with h | rfl
            · exact HSV.out i h
            · rw [HSE.out.1]
              unfold srv
              rw [HTE.out.1]
              exact decide_eq_true HSP.out
          · rw [eS, eA]
            refine ⟨⟨v6, F6, _, mo9, tx9, br9.low (Nat.le_trans HK.out.1.size HB5.out.size), H6.out.2.2.2.1, H6.out.2.2.2.2.1, H6.out.2.2.1, fun g hg2 hf => ?_, H6.out.2.2.2.2.2.2.1, H6.out.2.2.2.2.2.2.2⟩, wt9, hA, z9, HN.out.1, HN.out.2.1, HN.out.2.2.1, HBD.out.2.2.1, ⟨by have := HBD.out; have := HN.out; omega, by have := HBD.out; have := HN.out; omega⟩, by rw [List.length_append]; have := HBD.out; have := HN.out; omega⟩
            rcases H9.out.2.2 g hg2 with h1 | h1
            · exact H6.out.2.2.2.2.2.1 g h1 hf
            · have := H8.out.1.ob.foot g hf; omega
        case measure => simp [intOf]; omega
      · rw [decide_eq_false hs]
        have HZ8 := Lib.hid (HK.out.2.2.keep HB5.out)
        have HT8 := Lib.hid (HG.out.2.1.keep HB5.out)
        have HM8 := Lib.hid (HG.out.1.fresh HB5.out)
        have HB8 := Lib.hid (And.intro (HG.out.2.2.1.below HB5.out) (HK.out.2.1.below HB5.out))
        have HB9 := Lib.hid (HK.out.1.trans (_root_.Go.Proofs.YtikaoikladbdpaaGreat.Wrote.of HB5.out (G3 p v0 F0)))
        have HNS := Lib.hid (show srv (goS pa k m S0 j) = false by rw [HSE.out.1]; unfold srv; rw [HTE.out.1]; exact decide_eq_false hs)
        clear hs
        have zz := HZ8.out
        have zf := zz.f
        have y0 := zz.c0
        have y1 := zz.c1
        have y2 := zz.c2
        have y3 := zz.c3
        have y4 := zz.c4
        have y5 := zz.c5
        have y6 := zz.c6
        have y7 := zz.c7
        have y8 := zz.c8
        have y9 := zz.c9
        have y10 := zz.c10
        have y11 := zz.c11
        have y12 := zz.c12
        have t0' := HT8.out.c0
        have t1' := HT8.out.c1
        have t2' := HT8.out.c2
        have t3' := HT8.out.c3
        have t4' := HT8.out.c4
        have t5' := HT8.out.c5
        have t6' := HT8.out.c6
        have t7' := HT8.out.c7
        have t8' := HT8.out.c8
        have t9' := HT8.out.c9
        have t10' := HT8.out.c10
        have t11' := HT8.out.c11
        have t12' := HT8.out.c12
        have hne : ¬ gt = a.heap.size := fun e => HN.out.2.2.1 e.symm
        clear zz
        go_wp2
        change bodyPost _ _ _ _ _ (setT w5 a.heap.size T (.slice ax nx cx))
        have Z := HZ8.out.all T (.slice ax nx cx)
        clear y0 y1 y2 y3 y4 y5 y6 y7 y8 y9 y10 y11 y12 t0' t1' t2' t3' t4' t5' t6' t7' t8' t9' t10' t11' t12' zf
        refine bodyPost_ret (v := .tuple #[thV T (.slice ax nx cx), .slice av1 al.length cv1]) (by simp [results, Tryz.results27, go_sem, thV, Z.c0, Z.c1, Z.c2, Z.c3, Z.c4, Z.c5, Z.c6, Z.c7, Z.c8, Z.c9, Z.c10, Z.c11, Z.c12]) rfl ?_
        rw [← HS0.out]
        refine ⟨j, hj, HSV.out, .inr HNS.out, v, F, .slice ax nx cx, .slice av1 al.length cv1, ?_, ?_, ?_, ?_, HG.out.2.2.2.2.2.2.1, ?_, HG.out.2.2.2.2.2.2.2.1, HG.out.2.2.2.2.2.2.2.2⟩
        · rw [HSE.out.1, HTE.out.1]
        · rw [HSE.out.1]
          exact HM8.out.box HZ8.out (by decide) (by decide) HG.out.2.2.2.2.1 HM.out.b.size (wroteT w5 a.heap.size T _)
        · rw [HSE.out.1]
          exact HB8.out.1.setT HZ8.out T _
        · rw [HSE.out.2]
          exact HB8.out.2.setT HZ8.out T _
        · have w1 := HB9.out
          have w2 := wroteT w5 a.heap.size T (.slice ax nx cx)
          exact ⟨w2.os.trans w1.os, w2.tape.trans w1.tape, w2.output.trans w1.output, Nat.le_trans w1.size w2.size, fun q hq hn => (w2.block q (Nat.lt_of_lt_of_le hq w1.size) (fun e => by have e : q = a.heap.size := e; omega)).trans (w1.block q hq hn)⟩
    · obtain rfl : j = st := by omega
      have HZ8 := Lib.hid HK.out.2.2
      have HT8 := Lib.hid HG.out.2.1
      have HM8 := Lib.hid HG.out.1
      have HB8 := Lib.hid (And.intro HG.out.2.2.1 HK.out.2.1)
      have HB9 := Lib.hid HK.out.1
      clear tx hlt
      have zz := HZ8.out
      have zf := zz.f
      have y0 := zz.c0
      have y1 := zz.c1
      have y2 := zz.c2
      have y3 := zz.c3
      have y4 := zz.c4
      have y5 := zz.c5
      have y6 := zz.c6
      have y7 := zz.c7
      have y8 := zz.c8
      have y9 := zz.c9
      have y10 := zz.c10
      have y11 := zz.c11
      have y12 := zz.c12
      have t0' := HT8.out.c0
      have t1' := HT8.out.c1
      have t2' := HT8.out.c2
      have t3' := HT8.out.c3
      have t4' := HT8.out.c4
      have t5' := HT8.out.c5
      have t6' := HT8.out.c6
      have t7' := HT8.out.c7
      have t8' := HT8.out.c8
      have t9' := HT8.out.c9
      have t10' := HT8.out.c10
      have t11' := HT8.out.c11
      have t12' := HT8.out.c12
      have hne : ¬ gt = a.heap.size := fun e => HN.out.2.2.1 e.symm
      clear zz
      go_wp2
      change bodyPost _ _ _ _ _ (setT wr a.heap.size T (.slice ax nx cx))
      have Z := HZ8.out.all T (.slice ax nx cx)
      clear y0 y1 y2 y3 y4 y5 y6 y7 y8 y9 y10 y11 y12 t0' t1' t2' t3' t4' t5' t6' t7' t8' t9' t10' t11' t12' zf
      refine bodyPost_ret (v := .tuple #[thV T (.slice ax nx cx), .slice av1 al.length cv1]) (by simp [results, Tryz.results27, go_sem, thV, Z.c0, Z.c1, Z.c2, Z.c3, Z.c4, Z.c5, Z.c6, Z.c7, Z.c8, Z.c9, Z.c10, Z.c11, Z.c12]) rfl ?_
      rw [← HS0.out]
      refine ⟨j, hj, HSV.out, .inl rfl, v, F, .slice ax nx cx, .slice av1 al.length cv1, ?_, ?_, ?_, ?_, HG.out.2.2.2.2.2.2.1, ?_, HG.out.2.2.2.2.2.2.2.1, HG.out.2.2.2.2.2.2.2.2⟩
      · rw [HSE.out.1, HTE.out.1]
      · rw [HSE.out.1]
        exact HM8.out.box HZ8.out (by decide) (by decide) HG.out.2.2.2.2.1 HM.out.b.size (wroteT wr a.heap.size T _)
      · rw [HSE.out.1]
        exact HB8.out.1.setT HZ8.out T _
      · rw [HSE.out.2]
        exact HB8.out.2.setT HZ8.out T _
      · have w1 := HB9.out
        have w2 := wroteT wr a.heap.size T (.slice ax nx cx)
        exact ⟨w2.os.trans w1.os, w2.tape.trans w1.tape, w2.output.trans w1.output, Nat.le_trans w1.size w2.size, fun q hq hn => (w2.block q (Nat.lt_of_lt_of_le hq w1.size) (fun e => by have e : q = a.heap.size := e; omega)).trans (w1.block q hq hn)⟩

end Go.Proofs.YtikaoikladbdpaaGreat.M2
namespace Go.Proofs.YtikaoikladbdpaaGreat.M2
open Go.RowKit

section
variable {w : World} {B p : Nat} {size : Int} {zs : List Int} {st : Int}

set_option maxRecDepth 100000 in
set_option maxHeartbeats 1600000 in
end

section
variable {W W' : World} {wb p mb : Nat} {lost : Bool}
end

end Go.Proofs.YtikaoikladbdpaaGreat.M2
