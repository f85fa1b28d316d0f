/- Keys of heights as plain functions; one key reckoned by natural numbers. -/
import Derived.Test.YtohdifimfhdhoaaDoorKD
import Derived.Test.YtohdifimfhdhoaaDoorKH
namespace Go.Proofs.YtohdifimfhdhoaaDoor
open Go.RowKit

/-- The seed of a height. -/
def seedR (s : List UInt8) (h : Nat) : List UInt8 := tagL 114 (s ++ [UInt8.ofNat h])
/-- The keys of all heights. -/
def keysR (s : List UInt8) : List (List UInt8) := (List.range 16).map fun i => keyL (seedR s (i + 1))
theorem seedR_toN (s : List UInt8) (h : Nat) (hh : h < 256) : (seedR s h).map UInt8.toNat = tagN 114 (s.map UInt8.toNat ++ [h]) := by
  have e : (114 : UInt8).toNat = 114 := rfl
  have e2 : (UInt8.ofNat h).toNat = h := by rw [UInt8.toNat_ofNat']; omega
  rw [seedR, tag_toN, List.map_append, List.map_cons, List.map_nil, e, e2]
def identR (s : List UInt8) : List UInt8 := rootL (keysR s)

/-- The two seeds of chapter 5's runs. -/
def seed7 : List UInt8 := 7 :: List.replicate 31 0
def seed8 : List UInt8 := 8 :: List.replicate 31 0

def forceL : List Nat → List Nat → (List Nat → List Nat) → List Nat
  | [], acc, K => K acc.reverse
  | x :: xs, acc, K => forceN x fun y => match y with | 0 => forceL xs (0 :: acc) K | n + 1 => forceL xs ((n + 1) :: acc) K
theorem forceL_eq (K : List Nat → List Nat) : ∀ xs acc, forceL xs acc K = K (acc.reverse ++ xs)
  | [], acc => by rw [forceL, List.append_nil]
  | x :: xs, acc => by
    rw [forceL, forceN_eq]
    cases x with
    | zero => rw [forceL_eq K xs, List.reverse_cons, List.append_assoc]; rfl
    | succ n => show forceL xs ((n + 1) :: acc) K = _; rw [forceL_eq K xs, List.reverse_cons, List.append_assoc]; rfl
def pubsNN (s : List Nat) : Nat → Nat → List Nat → (List Nat → List Nat) → List Nat
  | 0, _, acc, K => K acc
  | n + 1, i, acc, K => forceL (pubN s i 0) [] fun p => forceL (pubN s i 1) [] fun q => pubsNN s n (i + 1) (acc ++ p ++ q) K
def keyNN (s : List Nat) : List Nat := pubsNN s 32 0 [] fun l => tagN 107 l
theorem pubsNN_eq (s : List UInt8) (K : List Nat → List Nat) : ∀ n i acc, i + n ≤ 256 → pubsNN (s.map UInt8.toNat) n i acc K = K (acc ++ (((List.range' i n).flatMap fun i => [pubL s i 0, pubL s i 1]).flatten).map UInt8.toNat)
  | 0, i, acc, _ => by rw [pubsNN]; simp
  | n + 1, i, acc, h => by
    rw [pubsNN, forceL_eq, forceL_eq, pubsNN_eq s K n (i + 1) _ (by omega), List.range'_succ, List.flatMap_cons, List.flatten_append, List.map_append]
    rw [← pub_toN s i 0 (by omega) (by omega), ← pub_toN s i 1 (by omega) (by omega)]
    simp only [List.reverse_nil, List.nil_append, List.flatten_cons, List.flatten_nil, List.append_nil, List.map_append, List.append_assoc]
theorem keyNN_eq (s : List UInt8) : (keyL s).map UInt8.toNat = keyNN (s.map UInt8.toNat) := by
  rw [keyNN, pubsNN_eq s _ 32 0 [] (by omega), keyL, keyOf, pubs, tag_toN, List.nil_append, List.range_eq_range']
  rfl
def rootP : Nat → List (List Nat) → (List Nat → List Nat) → List Nat
  | 0, l, K => forceL (tagN 0 l.flatten) [] K
  | d + 1, l, K => rootP d (l.take (2 ^ d)) fun a => rootP d (l.drop (2 ^ d)) fun b => forceL (tagN 1 (a ++ b)) [] K
theorem rootP_eq : ∀ d (l : List (List UInt8)) K, l.length = 2 ^ d → rootP d (l.map fun x => x.map UInt8.toNat) K = K ((rootL l).map UInt8.toNat)
  | 0, [x], K, _ => by rw [rootP, forceL_eq, rootL_1, tag_toN]; simp
  | d + 1, l, K, h => by
    have h1 : 1 ≤ 2 ^ d := Nat.one_le_two_pow
    rw [Nat.pow_succ] at h
    have h2 : halfN l.length = 2 ^ d := halfN_eq (by omega) (by omega)
    rw [rootP, rootL_2 (by omega), h2, ← List.map_take, rootP_eq d _ _ (by rw [List.length_take]; omega), ← List.map_drop, rootP_eq d _ _ (by rw [List.length_drop]; omega), forceL_eq, ← List.map_append, tag_toN]
    rfl
end Go.Proofs.YtohdifimfhdhoaaDoor
