/-
  What operations of each object do, in plain lists; what put and take do is that. Conditions: lists of at most a thousand numbers.
-/
import Derived.Test.YtejnadokjnfagaaActs8
import Derived.Test.YtejnadokjnfagaaRef04S
namespace Go.Proofs.Ytejnadokjnfagaa
open Go.RowKit

/-- What an operation makes of a heap's items. -/
def hpL (most : Int) (zs : List Int) (k x : Int) : List Int := if k = 1 then (if (zs.length : Int) < most then zs.take (fgt x zs) ++ x :: zs.drop (fgt x zs) else zs) else if k = 2 then zs.tail else zs
def hpC (most : Int) (zs : List Int) (k : Int) : Int := if k = 1 then (if (zs.length : Int) < most then 1 else 3) else if k = 2 then (if zs = [] then 4 else 2) else 5
def hpV (zs : List Int) (k : Int) : Int := if k = 2 then zs.headD 0 else 0
/-- Of any object. -/
def objL (obj most : Int) (zs : List Int) (k x : Int) : List Int := if obj = 1 then stkL most zs k x else if obj = 2 then dqL most zs k x else if obj = 3 then hpL most zs k x else zs
def objC (obj most : Int) (zs : List Int) (k : Int) : Int := if obj = 1 then stkC most zs k else if obj = 2 then dqC most zs k else if obj = 3 then hpC most zs k else 5
def objV (obj : Int) (zs : List Int) (k : Int) : Int := if obj = 1 then stkV zs k else if obj = 2 then dqV zs k else if obj = 3 then hpV zs k else 0

/-- What operations make of the items, and what they are told. -/
def runZ (obj most : Int) (zs : List Int) (os : List (Int × Int)) : List Int := os.foldl (fun l o => objL obj most l o.1 o.2) zs
def runT (obj most : Int) : List Int → List (Int × Int) → List (Int × Int)
  | _, [] => []
  | zs, o :: os => (objC obj most zs o.1, objV obj zs o.1) :: runT obj most (objL obj most zs o.1 o.2) os

theorem runZ_snoc (obj most : Int) (zs : List Int) (os : List (Int × Int)) (o : Int × Int) : runZ obj most zs (os ++ [o]) = objL obj most (runZ obj most zs os) o.1 o.2 := by simp [runZ]
theorem runT_snoc (obj most : Int) (o : Int × Int) : ∀ (os : List (Int × Int)) (zs : List Int), runT obj most zs (os ++ [o]) = runT obj most zs os ++ [(objC obj most (runZ obj most zs os) o.1, objV obj (runZ obj most zs os) o.1)]
  | [], zs => rfl
  | p :: os, zs => by
    show _ :: runT obj most (objL obj most zs p.1 p.2) (os ++ [o]) = _
    rw [runT_snoc obj most o os]
    rfl
theorem runT_length (obj most : Int) : ∀ (os : List (Int × Int)) (zs : List Int), (runT obj most zs os).length = os.length
  | [], _ => rfl
  | _ :: os, zs => by simp [runT, runT_length obj most os]

theorem objL_length (obj most : Int) (zs : List Int) (k x : Int) : (objL obj most zs k x).length ≤ zs.length ∨ ((zs.length : Int) < most ∧ (objL obj most zs k x).length = zs.length + 1) := by
  have hf := fgt_le x zs
  by_cases e1 : obj = 1
  · simp only [objL, e1, if_true, stkL]
    split
    · split
      · right; simp; assumption
      · left; omega
    · split
      · left; simp
      · left; omega
  · by_cases e2 : obj = 2
    · simp only [objL, e2, if_true, if_neg (show ¬ (2 : Int) = 1 by omega), dqL]
      split
      · split
        · right; simp; assumption
        · left; omega
      · split
        · split
          · right; simp; assumption
          · left; omega
        · split
          · left; simp
          · split
            · left; simp
            · left; omega
    · by_cases e3 : obj = 3
      · simp only [objL, e3, if_true, if_neg (show ¬ (3 : Int) = 1 by omega), if_neg (show ¬ (3 : Int) = 2 by omega), hpL]
        split
        · split
          · right; refine ⟨by assumption, ?_⟩; simp; omega
          · left; omega
        · split
          · left; simp
          · left; omega
      · left; simp only [objL, e1, e2, e3, if_false]; omega
theorem objL_le {obj most : Int} {zs : List Int} (h : zs.length ≤ 1000) (hm : most ≤ 1000) (k x : Int) : (objL obj most zs k x).length ≤ 1000 := by
  rcases objL_length obj most zs k x with h1 | h1 <;> omega
theorem runZ_le {obj most : Int} (hm : most ≤ 1000) : ∀ (os : List (Int × Int)) (zs : List Int), zs.length ≤ 1000 → (runZ obj most zs os).length ≤ 1000
  | [], _, h => h
  | o :: os, _, h => runZ_le hm os _ (objL_le h hm o.1 o.2)

/-- What each object does, by its number. -/
def objM (obj : Int) : Array MapEntry := if obj = 1 then stackM else if obj = 2 then dequeM else if obj = 3 then heapM else #[]

section
variable {w : World} {v : Value} {zs : List Int}
/-- put, whichever the place. -/
theorem putEach (h : Tail w v (zs.map (Value.int .i32))) (m x : Int) (hm : m ≤ 1000) (hn : zs.length ≤ 1000) :
    Calls Try.prog 34 #[.int .i64 m, v, .int .i32 x, .func (.func 35) #[] #[]] w (DidTail w v (if (zs.length : Int) < m then zs ++ [x] else zs) (if (zs.length : Int) < m then 1 else 3) 0) ∧
    Calls Try.prog 34 #[.int .i64 m, v, .int .i32 x, .func (.func 38) #[] #[]] w (DidTail w v (if (zs.length : Int) < m then x :: zs else zs) (if (zs.length : Int) < m then 1 else 3) 0) ∧
    Calls Try.prog 34 #[.int .i64 m, v, .int .i32 x, .func (.func 39) #[] #[]] w (DidTail w v (if (zs.length : Int) < m then zs.take (fgt x zs) ++ x :: zs.drop (fgt x zs) else zs) (if (zs.length : Int) < m then 1 else 3) 0) := by
  by_cases hf : (zs.length : Int) < m
  · simp only [if_pos hf]
    exact ⟨putBehind v zs h m x hf (by omega), putFirst v zs h m x hf (by omega), putAhead v zs h m x hf (by omega)⟩
  · simp only [if_neg hf]
    exact ⟨putFull v zs h m x _ (by omega) hn, putFull v zs h m x _ (by omega) hn, putFull v zs h m x _ (by omega) hn⟩
/-- take, at either end. -/
theorem takeEach (h : Tail w v (zs.map (Value.int .i32))) (m x : Int) (hn : zs.length ≤ 1000) :
    Calls Try.prog 36 #[.int .i64 m, v, .int .i32 x, .func (.func 38) #[] #[]] w (DidTail w v zs.tail (if zs = [] then 4 else 2) (zs.headD 0)) ∧
    Calls Try.prog 36 #[.int .i64 m, v, .int .i32 x, .func (.func 37) #[] #[]] w (DidTail w v zs.dropLast (if zs = [] then 4 else 2) (zs.getLastD 0)) := by
  constructor
  · cases zs with
    | nil => exact takeNone v [] h m x _ rfl (by simp)
    | cons y ys => exact takeFirst v y ys h m x (by simp at hn; omega)
  · rcases List.eq_nil_or_concat zs with e | ⟨ys, y, e⟩
    · subst e; exact takeNone v [] h m x _ rfl (by simp)
    · rw [List.concat_eq_append] at e
      subst e
      have hl : ys.length < 1000 := by simp at hn; omega
      have e1 : (ys ++ [y]).dropLast = ys := by simp
      have e2 : (ys ++ [y]).getLastD 0 = y := by simp
      have e3 : ¬ ys ++ [y] = [] := by simp
      rw [e1, e2, if_neg e3]
      by_cases h0 : 0 < ys.length
      · exact takeLast v y ys h m x h0 hl
      · have := List.eq_nil_of_length_eq_zero (show ys.length = 0 by omega)
        subst this
        exact takeLast1 v y [] h m x rfl hl
end

/-- An operation that an object has: which function it is, and where. -/
def ActIs (obj k : Int) (d a : Nat) : Prop :=
  ∃ i, Instr.findNow (.int .u8) (.int .u8 k) (objM obj).toList 0 = some (some (i, actV d a))
/-- One that it has not. -/
def ActNone (obj k : Int) : Prop := Instr.findNow (.int .u8) (.int .u8 k) (objM obj).toList 0 = some none

/-- What the five ways do. -/
def ActDoes (obj k : Int) (d a : Nat) : Prop := ActIs obj k d a ∧ ∀ (w : World) (v : Value) (zs : List Int) (m x : Int), Tail w v (zs.map (Value.int .i32)) → m ≤ 1000 → zs.length ≤ 1000 →
  Calls Try.prog d #[.int .i64 m, v, .int .i32 x, .func (.func a) #[] #[]] w (DidTail w v (objL obj m zs k x) (objC obj m zs k) (objV obj zs k))

theorem find_none {k : Int} : ∀ (es : List MapEntry) (i : Nat), (∀ e ∈ es, ∃ j, e.key = .int .u8 j ∧ j ≠ k) → Instr.findNow (.int .u8) (.int .u8 k) es i = some none
  | [], _, _ => rfl
  | e :: es, i, h => by
    obtain ⟨j, hj, hne⟩ := h e (by simp)
    unfold Instr.findNow
    rw [hj]
    have : (k == j) = false := by simp; omega
    simp only [Instr.sameNow, if_true, this]
    exact find_none es (i + 1) (fun e' he' => h e' (by simp [he']))

/-- Whatever the object and the kind are. -/
theorem actCases (obj k : Int) :
    ActDoes obj k 34 35 ∨ ActDoes obj k 34 38 ∨ ActDoes obj k 34 39 ∨ ActDoes obj k 36 38 ∨ ActDoes obj k 36 37 ∨
    (ActNone obj k ∧ ∀ m zs x, objL obj m zs k x = zs ∧ objC obj m zs k = 5 ∧ objV obj zs k = 0) := by
  by_cases e1 : obj = 1
  · subst e1
    by_cases k1 : k = 1
    · subst k1
      exact .inl ⟨⟨0, rfl⟩, fun w v zs m x h hm hn => by simpa [objL, objC, objV, stkL, stkC, stkV] using (putEach h m x hm hn).1⟩
    · by_cases k2 : k = 2
      · subst k2
        exact .inr (.inr (.inr (.inr (.inl ⟨⟨1, rfl⟩, fun w v zs m x h hm hn => by simpa [objL, objC, objV, stkL, stkC, stkV] using (takeEach h m x hn).2⟩))))
      · refine .inr (.inr (.inr (.inr (.inr ⟨?_, fun m zs x => by simp [objL, objC, objV, stkL, stkC, stkV, k1, k2]⟩))))
        refine find_none _ _ (fun e he => ?_)
        simp [objM, stackM] at he
        rcases he with rfl | rfl
        · exact ⟨_, rfl, fun h => k1 h.symm⟩
        · exact ⟨_, rfl, fun h => k2 h.symm⟩
  · by_cases e2 : obj = 2
    · subst e2
      by_cases k1 : k = 1
      · subst k1
        exact .inr (.inl ⟨⟨0, rfl⟩, fun w v zs m x h hm hn => by simpa [objL, objC, objV, dqL, dqC, dqV] using (putEach h m x hm hn).2.1⟩)
      · by_cases k2 : k = 2
        · subst k2
          exact .inl ⟨⟨1, rfl⟩, fun w v zs m x h hm hn => by simpa [objL, objC, objV, dqL, dqC, dqV] using (putEach h m x hm hn).1⟩
        · by_cases k3 : k = 3
          · subst k3
            exact .inr (.inr (.inr (.inl ⟨⟨2, rfl⟩, fun w v zs m x h hm hn => by simpa [objL, objC, objV, dqL, dqC, dqV] using (takeEach h m x hn).1⟩)))
          · by_cases k4 : k = 4
            · subst k4
              exact .inr (.inr (.inr (.inr (.inl ⟨⟨3, rfl⟩, fun w v zs m x h hm hn => by simpa [objL, objC, objV, dqL, dqC, dqV] using (takeEach h m x hn).2⟩))))
            · refine .inr (.inr (.inr (.inr (.inr ⟨?_, fun m zs x => by simp [objL, objC, objV, dqL, dqC, dqV, k1, k2, k3, k4]⟩))))
              refine find_none _ _ (fun e he => ?_)
              simp [objM, dequeM] at he
              rcases he with rfl | rfl | rfl | rfl
              · exact ⟨_, rfl, fun h => k1 h.symm⟩
              · exact ⟨_, rfl, fun h => k2 h.symm⟩
              · exact ⟨_, rfl, fun h => k3 h.symm⟩
              · exact ⟨_, rfl, fun h => k4 h.symm⟩
    · by_cases e3 : obj = 3
      · subst e3
        by_cases k1 : k = 1
        · subst k1
          exact .inr (.inr (.inl ⟨⟨0, rfl⟩, fun w v zs m x h hm hn => by simpa [objL, objC, objV, hpL, hpC, hpV] using (putEach h m x hm hn).2.2⟩))
        · by_cases k2 : k = 2
          · subst k2
            exact .inr (.inr (.inr (.inl ⟨⟨1, rfl⟩, fun w v zs m x h hm hn => by simpa [objL, objC, objV, hpL, hpC, hpV] using (takeEach h m x hn).1⟩)))
          · refine .inr (.inr (.inr (.inr (.inr ⟨?_, fun m zs x => by simp [objL, objC, objV, hpL, hpC, hpV, k1, k2]⟩))))
            refine find_none _ _ (fun e he => ?_)
            simp [objM, heapM] at he
            rcases he with rfl | rfl
            · exact ⟨_, rfl, fun h => k1 h.symm⟩
            · exact ⟨_, rfl, fun h => k2 h.symm⟩
      · refine .inr (.inr (.inr (.inr (.inr ⟨?_, fun m zs x => by simp [objL, objC, objV, e1, e2, e3]⟩))))
        refine find_none _ _ (fun e he => ?_)
        simp [objM, e1, e2, e3] at he

end Go.Proofs.Ytejnadokjnfagaa
