/-
  What operations of each object do, in plain lists, in an order; a list aside. Conditions: none. Where the document's order of a batch puts one place more, and that this is the order. Conditions: none; no Go function is looked at here. What reaperref08.heap tells: as hpL, hpC and hpV say. Conditions: a list of at most a thousand numbers. What reaperref08.Apply tells: as objL, objC and objV say. Conditions: a list of at most a thousand numbers; a kind of 0 to 255. What the texts on the skip list and on the coin share: new blocks, a bool's size, an int's size. Conditions: none.
-/
import Derived.Test.YtikaoikladbdpaaGreatG0216
import Derived.Test.YtikaoikladbdpaaGreatQRef05Sm
namespace Go.Proofs.YtikaoikladbdpaaGreat
open Go.RowKit Go.Lib

def fgt (x : Int) : List Int → Nat
  | [] => 0
  | y :: l => if x < y then 0 else fgt x l + 1
def hpL (most : Int) (zs : List Int) (k x : Int) : List Int := if k = 1 then (if (zs.length : Int) < most then zs.take (fgt x zs) ++ x :: zs.drop (fgt x zs) else zs) else if k = 2 then zs.tail else zs
def hpC (most : Int) (zs : List Int) (k : Int) : Int := if k = 1 then (if (zs.length : Int) < most then 1 else 3) else if k = 2 then (if zs = [] then 4 else 2) else 5
def hpV (zs : List Int) (k : Int) : Int := if k = 2 then zs.headD 0 else 0
def objL (obj most : Int) (zs : List Int) (k x : Int) : List Int := if obj = 1 then stkL most zs k x else if obj = 2 then dqL most zs k x else if obj = 3 then hpL most zs k x else zs
def objC (obj most : Int) (zs : List Int) (k : Int) : Int := if obj = 1 then stkC most zs k else if obj = 2 then dqC most zs k else if obj = 3 then hpC most zs k else 5
def objV (obj : Int) (zs : List Int) (k : Int) : Int := if obj = 1 then stkV zs k else if obj = 2 then dqV zs k else if obj = 3 then hpV zs k else 0

def runZ (obj most : Int) (zs : List Int) (os : List (Int × Int)) : List Int := os.foldl (fun l o => objL obj most l o.1 o.2) zs
def runT (obj most : Int) : List Int → List (Int × Int) → List (Int × Int)
  | _, [] => []
  | zs, o :: os => (objC obj most zs o.1, objV obj zs o.1) :: runT obj most (objL obj most zs o.1 o.2) os

theorem runZ_snoc (obj most : Int) (zs : List Int) (os : List (Int × Int)) (o : Int × Int) : runZ obj most zs (os ++ [o]) = objL obj most (runZ obj most zs os) o.1 o.2 := by simp [runZ]
theorem runT_snoc (obj most : Int) (o : Int × Int) : ∀ (os : List (Int × Int)) (zs : List Int), runT obj most zs (os ++ [o]) = runT obj most zs os ++ [(objC obj most (runZ obj most zs os) o.1, objV obj (runZ obj most zs os) o.1)]
  | [], zs => rfl
  | p :: os, zs => by
    show _ :: runT obj most (objL obj most zs p.1 p.2) (os ++ [o]) = _
    rw [runT_snoc obj most o os]
    rfl
theorem runT_length (obj most : Int) : ∀ (os : List (Int × Int)) (zs : List Int), (runT obj most zs os).length = os.length
  | [], _ => rfl
  | _ :: os, zs => by simp [runT, runT_length obj most os]

section
variable {o : Int × Int}
theorem take_op8 (os : List (Int × Int)) (k : Nat) (h : k < os.length) (e : os.getD k (0, 0) = o) : os.take (k + 1) = os.take k ++ [o] := by
  rw [List.take_succ_eq_append_getElem h, ← e]; simp [List.getD, h]

end
section
variable {w : World} {ao : Option Addr} {n cap : Nat} {os : List (Int × Int)}
end
theorem runT_append (obj m : Int) (b : List (Int × Int)) : ∀ (a : List (Int × Int)) (zs : List Int), runT obj m zs (a ++ b) = runT obj m zs a ++ runT obj m (runZ obj m zs a) b
  | [], zs => rfl
  | o :: a, zs => by
    show _ :: runT obj m (objL obj m zs o.1 o.2) (a ++ b) = _
    rw [runT_append obj m b a]
    rfl

def ordO (obj : Int) (os : List (Int × Int)) : List (Int × Int) := (ordL obj os).map (fun i => os.getD i.toNat (0, 0))
theorem ordO_length (obj : Int) (os : List (Int × Int)) : (ordO obj os).length = os.length := by simp [ordO, ordL_length]
theorem ordO_at {obj : Int} {os : List (Int × Int)} {i : Nat} (h : i < os.length) : (ordO obj os).getD i (0, 0) = os.getD ((ordL obj os).getD i 0).toNat (0, 0) := by
  have hl : i < (ordL obj os).length := by rw [ordL_length]; exact h
  simp [ordO, List.getD, hl]
def placeK (l : List Int) (t : List (Int × Int)) (n : Nat) : Nat → List (Int × Int)
  | 0 => List.replicate n (0, 0)
  | k + 1 => (placeK l t n k).set (l.getD k 0).toNat (t.getD k (0, 0))
theorem placeK_length (l : List Int) (t : List (Int × Int)) (n : Nat) : ∀ k, (placeK l t n k).length = n
  | 0 => by simp [placeK]
  | k + 1 => by simp [placeK, placeK_length l t n k]
def batZ (obj m : Int) (zs : List Int) (os : List (Int × Int)) : List Int := runZ obj m zs (ordO obj os)
def batT (obj m : Int) (zs : List Int) (os : List (Int × Int)) : List (Int × Int) := placeK (ordL obj os) (runT obj m zs (ordO obj os)) os.length os.length
theorem batT_length (obj m : Int) (zs : List Int) (os : List (Int × Int)) : (batT obj m zs os).length = os.length := placeK_length _ _ _ _

end Go.Proofs.YtikaoikladbdpaaGreat
namespace Go.Proofs.YtikaoikladbdpaaGreat

end Go.Proofs.YtikaoikladbdpaaGreat
namespace Go.Proofs.YtikaoikladbdpaaGreat
open Go.RowKit

section
variable {w W w1 : World} {ao : Option Addr} {n cap : Nat} {zs : List Int}

end

end Go.Proofs.YtikaoikladbdpaaGreat
namespace Go.Proofs.YtikaoikladbdpaaGreat
open Go.RowKit Go.Lib

section
variable {w W w1 : World} {ao : Option Addr} {n cap : Nat} {zs : List Int}

end

section
variable {w : World} {ao : Option Addr} {n cap : Nat} {zs : List Int}

end

end Go.Proofs.YtikaoikladbdpaaGreat
namespace Go.Proofs.YtikaoikladbdpaaGreat
open Go.RowKit

theorem infoBool : (Tryz.prog.info? 4).map (fun i => (i.zero, i.size, i.bytes)) = some (some (.bool false), 1, 1) := by kernel_rfl
theorem infoInt : (Tryz.prog.info? 3).map (fun i => (i.zero, i.size, i.bytes)) = some (some (.int .i64 0), 1, 8) := by kernel_rfl

def New (w w' : World) : Nat → Prop := fun g => w.heap.size ≤ g ∧ g < w'.heap.size
end Go.Proofs.YtikaoikladbdpaaGreat
