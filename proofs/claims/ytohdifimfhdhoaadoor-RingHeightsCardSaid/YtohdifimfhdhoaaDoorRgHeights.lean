/- The law on two heights: its contract. -/
import Derived.Test.YtohdifimfhdhoaaDoorRingH
namespace Go.Proofs.YtohdifimfhdhoaaDoor
open Go.RowKit

def htaS (t : Nat) : Bool := t == 13 || t == 14 || t == 31 || t == 32 || t == 33 || t == 34 || t == 35 || t == 36 || t == 37 || t == 38
def htaDie (k : Nat) : Nat := if k = 8 then 10 else if k = 9 then 11 else 99
def htaOwn (k : Nat) : Bool := k == 8 || k == 9 || k == 10 || k == 11
def htaAl (k : Nat) : Bool := k == 2 || k == 6 || k == 8 || k == 9 || k == 10 || k == 11
def htaF (i j n0 N7 c7 : Nat) (x0 L : List UInt8) (A7 : Option Addr) : Nat → Value → World → Prop
  | 0 => fun v _ => v = (.agg (x0.map bv).toArray)
  | 1 => fun v _ => v = .int .i64 ((i : Int) + 1)
  | 2 => fun v _ => v = .slice A7 N7 c7
  | 3 => fun v w => SigV w n0 x0 L i v
  | 4 => fun v _ => v = (.agg (x0.map bv).toArray)
  | 5 => fun v _ => v = .int .i64 ((j : Int) + 1)
  | 6 => fun v _ => v = .slice A7 N7 c7
  | 7 => fun v w => SigV w n0 x0 L j v
  | 8 => Made #[.int .i64 0, .slice none 0 0, .slice none 0 0, .slice none 0 0] 28
  | 9 => Made #[.int .i64 0, .slice none 0 0, .slice none 0 0, .slice none 0 0] 28
  | 10 => Stored 28
  | 11 => Stored 28
  | _ => fun _ _ => True
theorem htaF_lasts (i j n0 N7 c7 : Nat) (x0 L : List UInt8) (A7 : Option Addr) : ∀ kq, LastsB htaAl kq (htaF i j n0 N7 c7 x0 L A7 kq)
  | 0 => LastsB.val _
  | 1 => LastsB.val _
  | 2 => LastsB.val _
  | 3 => LastsB.sigV rfl _ _ _ _
  | 4 => LastsB.val _
  | 5 => LastsB.val _
  | 6 => LastsB.val _
  | 7 => LastsB.sigV rfl _ _ _ _
  | 8 => LastsB.made rfl _ _
  | 9 => LastsB.made rfl _ _
  | 10 => LastsB.stored rfl _
  | 11 => LastsB.stored rfl _
  | _ + 12 => fun _ _ _ _ _ _ _ => trivial

def htbS (t : Nat) : Bool := t == 8 || t == 49 || t == 50 || t == 51 || t == 52 || t == 53 || t == 54 || t == 55 || t == 56 || t == 57 || t == 58 || t == 59 || t == 60 || t == 61 || t == 62 || t == 63 || t == 64 || t == 65 || t == 66 || t == 67 || t == 68 || t == 69 || t == 70 || t == 71 || t == 72 || t == 73 || t == 74 || t == 75 || t == 76 || t == 77 || t == 78 || t == 79 || t == 80 || t == 81 || t == 82 || t == 83 || t == 84 || t == 85 || t == 86 || t == 87 || t == 88 || t == 89 || t == 90 || t == 91 || t == 92 || t == 93 || t == 94 || t == 95 || t == 96 || t == 97 || t == 98 || t == 99 || t == 100 || t == 101 || t == 102 || t == 103 || t == 104 || t == 105 || t == 106 || t == 107 || t == 108 || t == 109 || t == 110 || t == 111 || t == 112
def htbDie (_ : Nat) : Nat := 99
def htbOwn (_ : Nat) : Bool := false
def htbAl (k : Nat) : Bool := k == 2 || k == 3 || k == 8 || k == 9 || k == 49 || k == 50 || k == 56 || k == 57
def htbF (i j N7 c7 b17 g1a c1a g2a c2a g3a c3a g1b c1b g2b c2b g3b c3b : Nat) (x0 I X Y : List UInt8) (A7 : Option Addr) : Nat → Value → World → Prop
  | 0 => fun v _ => v = (.agg (I.map bv).toArray)
  | 1 => fun v _ => v = .int .i64 ((i : Int) + 1)
  | 2 => fun v _ => v = .slice A7 N7 c7
  | 3 => fun v _ => v = (.agg #[.int .i64 ((i : Int) + 1), .slice (some ⟨g1a, 0, none⟩) 32 c1a, .slice (some ⟨g2a, 0, none⟩) 32 c2a, .slice (some ⟨g3a, 0, none⟩) 4 c3a])
  | 4 => fun v _ => v = .bool true
  | 5 => fun v _ => v = .bool true
  | 6 => fun v _ => v = (.agg (I.map bv).toArray)
  | 7 => fun v _ => v = .int .i64 ((j : Int) + 1)
  | 8 => fun v _ => v = .slice A7 N7 c7
  | 9 => fun v _ => v = (.agg #[.int .i64 ((j : Int) + 1), .slice (some ⟨g1b, 0, none⟩) 32 c1b, .slice (some ⟨g2b, 0, none⟩) 32 c2b, .slice (some ⟨g3b, 0, none⟩) 4 c3b])
  | 10 => fun v _ => v = .bool true
  | 11 => fun v _ => v = .bool true
  | 12 => fun v _ => v = .bool true
  | 13 => fun v _ => v = .int .i64 ((i : Int) + 1)
  | 14 => fun v _ => v = .int .i64 ((j : Int) + 1)
  | 15 => fun v _ => v = .bool true
  | 16 => fun v _ => v = .bool true
  | 17 => fun v _ => v = undef
  | 18 => fun v _ => v = undef
  | 19 => fun v _ => v = undef
  | 20 => fun v _ => v = undef
  | 21 => fun v _ => v = undef
  | 22 => fun v _ => v = undef
  | 23 => fun v _ => v = .bool true
  | 24 => fun v _ => v = .bool true
  | 25 => fun v _ => v = .bool true
  | 26 => fun v _ => v = .bool true
  | 27 => fun v _ => v = .bool true
  | 28 => fun v _ => v = .bool true
  | 29 => fun v _ => v = (.agg (X.map bv).toArray)
  | 30 => fun v _ => v = (.agg (x0.map bv).toArray)
  | 31 => fun v _ => v = .int .i64 ((i : Int) + 1)
  | 32 => fun v _ => v = (.agg (Y.map bv).toArray)
  | 33 => fun v _ => v = (.agg (X.map bv).toArray)
  | 34 => fun v _ => v = .bool true
  | 35 => fun v _ => v = .bool true
  | 36 => fun v _ => v = .bool true
  | 37 => fun v _ => v = .pointer (some ⟨b17, 3, none⟩)
  | 38 => fun v _ => v = .slice none 0 0
  | 39 => fun v _ => v = .int .i64 ((0 : Nat) : Int)
  | 40 => fun v _ => v = .bool true
  | 41 => fun v _ => v = .bool true
  | 42 => fun v _ => v = .bool true
  | 43 => fun v _ => v = .pointer (some ⟨b17, 0, none⟩)
  | 44 => fun v _ => v = .int .i64 0
  | 45 => fun v _ => v = .bool true
  | 46 => fun v _ => v = .bool true
  | 47 => fun v _ => v = .bool true
  | 48 => fun v _ => v = (.agg (I.map bv).toArray)
  | 49 => fun v _ => v = .slice A7 N7 c7
  | 50 => fun v _ => v = (.agg #[.int .i64 0, .slice none 0 0, .slice none 0 0, .slice none 0 0])
  | 51 => fun v _ => v = .bool false
  | 52 => fun v _ => v = .bool true
  | 53 => fun v _ => v = .bool true
  | 54 => fun v _ => v = .bool true
  | 55 => fun v _ => v = (.agg (I.map bv).toArray)
  | 56 => fun v _ => v = .slice A7 N7 c7
  | 57 => fun v _ => v = (.agg #[.int .i64 0, .slice none 0 0, .slice none 0 0, .slice none 0 0])
  | 58 => fun v _ => v = .bool false
  | 59 => fun v _ => v = .bool true
  | 60 => fun v _ => v = .bool true
  | 61 => fun v _ => v = .bool true
  | 62 => fun v _ => v = .bool true
  | 63 => fun v _ => v = .bool true
  | 64 => fun v _ => v = .bool true
  | _ => fun _ _ => True
theorem htbF_lasts (i j N7 c7 b17 g1a c1a g2a c2a g3a c3a g1b c1b g2b c2b g3b c3b : Nat) (x0 I X Y : List UInt8) (A7 : Option Addr) : ∀ kq, LastsB htbAl kq (htbF i j N7 c7 b17 g1a c1a g2a c2a g3a c3a g1b c1b g2b c2b g3b c3b x0 I X Y A7 kq)
  | 0 => LastsB.val _
  | 1 => LastsB.val _
  | 2 => LastsB.val _
  | 3 => LastsB.val _
  | 4 => LastsB.val _
  | 5 => LastsB.val _
  | 6 => LastsB.val _
  | 7 => LastsB.val _
  | 8 => LastsB.val _
  | 9 => LastsB.val _
  | 10 => LastsB.val _
  | 11 => LastsB.val _
  | 12 => LastsB.val _
  | 13 => LastsB.val _
  | 14 => LastsB.val _
  | 15 => LastsB.val _
  | 16 => LastsB.val _
  | 17 => LastsB.val _
  | 18 => LastsB.val _
  | 19 => LastsB.val _
  | 20 => LastsB.val _
  | 21 => LastsB.val _
  | 22 => LastsB.val _
  | 23 => LastsB.val _
  | 24 => LastsB.val _
  | 25 => LastsB.val _
  | 26 => LastsB.val _
  | 27 => LastsB.val _
  | 28 => LastsB.val _
  | 29 => LastsB.val _
  | 30 => LastsB.val _
  | 31 => LastsB.val _
  | 32 => LastsB.val _
  | 33 => LastsB.val _
  | 34 => LastsB.val _
  | 35 => LastsB.val _
  | 36 => LastsB.val _
  | 37 => LastsB.val _
  | 38 => LastsB.val _
  | 39 => LastsB.val _
  | 40 => LastsB.val _
  | 41 => LastsB.val _
  | 42 => LastsB.val _
  | 43 => LastsB.val _
  | 44 => LastsB.val _
  | 45 => LastsB.val _
  | 46 => LastsB.val _
  | 47 => LastsB.val _
  | 48 => LastsB.val _
  | 49 => LastsB.val _
  | 50 => LastsB.val _
  | 51 => LastsB.val _
  | 52 => LastsB.val _
  | 53 => LastsB.val _
  | 54 => LastsB.val _
  | 55 => LastsB.val _
  | 56 => LastsB.val _
  | 57 => LastsB.val _
  | 58 => LastsB.val _
  | 59 => LastsB.val _
  | 60 => LastsB.val _
  | 61 => LastsB.val _
  | 62 => LastsB.val _
  | 63 => LastsB.val _
  | 64 => LastsB.val _
  | _ + 65 => fun _ _ _ _ _ _ _ => trivial
def htcS (t : Nat) : Bool := t == 8 || t == 49 || t == 50 || t == 51 || t == 52 || t == 53 || t == 54 || t == 55 || t == 56 || t == 57 || t == 58 || t == 59 || t == 60 || t == 61 || t == 62 || t == 63 || t == 64 || t == 65 || t == 66 || t == 67 || t == 68 || t == 69 || t == 70 || t == 71 || t == 72 || t == 73 || t == 74 || t == 75 || t == 76 || t == 77 || t == 78 || t == 79 || t == 80 || t == 81 || t == 82 || t == 83 || t == 84 || t == 85 || t == 86 || t == 87 || t == 88 || t == 89 || t == 90 || t == 91 || t == 92 || t == 93 || t == 94 || t == 95 || t == 96 || t == 97 || t == 98 || t == 99 || t == 100 || t == 101 || t == 102 || t == 103 || t == 104 || t == 105 || t == 106 || t == 107 || t == 108 || t == 109 || t == 110 || t == 111 || t == 112
def htcDie (_ : Nat) : Nat := 99
def htcOwn (_ : Nat) : Bool := false
def htcAl (k : Nat) : Bool := k == 2 || k == 3 || k == 8 || k == 9 || k == 19 || k == 20 || k == 49 || k == 50 || k == 56 || k == 57
def htcF (i j N7 c7 b17 g1a c1a g2a c2a g3a c3a g1b c1b g2b c2b g3b c3b : Nat) (x0 I X Y : List UInt8) (A7 : Option Addr) : Nat → Value → World → Prop
  | 0 => fun v _ => v = (.agg (I.map bv).toArray)
  | 1 => fun v _ => v = .int .i64 ((i : Int) + 1)
  | 2 => fun v _ => v = .slice A7 N7 c7
  | 3 => fun v _ => v = (.agg #[.int .i64 ((i : Int) + 1), .slice (some ⟨g1a, 0, none⟩) 32 c1a, .slice (some ⟨g2a, 0, none⟩) 32 c2a, .slice (some ⟨g3a, 0, none⟩) 4 c3a])
  | 4 => fun v _ => v = .bool true
  | 5 => fun v _ => v = .bool true
  | 6 => fun v _ => v = (.agg (I.map bv).toArray)
  | 7 => fun v _ => v = .int .i64 ((j : Int) + 1)
  | 8 => fun v _ => v = .slice A7 N7 c7
  | 9 => fun v _ => v = (.agg #[.int .i64 ((j : Int) + 1), .slice (some ⟨g1b, 0, none⟩) 32 c1b, .slice (some ⟨g2b, 0, none⟩) 32 c2b, .slice (some ⟨g3b, 0, none⟩) 4 c3b])
  | 10 => fun v _ => v = .bool true
  | 11 => fun v _ => v = .bool true
  | 12 => fun v _ => v = .bool true
  | 13 => fun v _ => v = .int .i64 ((i : Int) + 1)
  | 14 => fun v _ => v = .int .i64 ((j : Int) + 1)
  | 15 => fun v _ => v = .bool false
  | 16 => fun v _ => v = .bool false
  | 17 => fun v _ => v = (.agg (I.map bv).toArray)
  | 18 => fun v _ => v = .int .i64 ((j : Int) + 1)
  | 19 => fun v _ => v = .slice A7 N7 c7
  | 20 => fun v _ => v = (.agg #[.int .i64 ((i : Int) + 1), .slice (some ⟨g1a, 0, none⟩) 32 c1a, .slice (some ⟨g2a, 0, none⟩) 32 c2a, .slice (some ⟨g3a, 0, none⟩) 4 c3a])
  | 21 => fun v _ => v = .bool false
  | 22 => fun v _ => v = .bool true
  | 23 => fun v _ => v = .bool true
  | 24 => fun v _ => v = .bool true
  | 25 => fun v _ => v = .bool true
  | 26 => fun v _ => v = .bool true
  | 27 => fun v _ => v = .bool true
  | 28 => fun v _ => v = .bool true
  | 29 => fun v _ => v = (.agg (X.map bv).toArray)
  | 30 => fun v _ => v = (.agg (x0.map bv).toArray)
  | 31 => fun v _ => v = .int .i64 ((i : Int) + 1)
  | 32 => fun v _ => v = (.agg (Y.map bv).toArray)
  | 33 => fun v _ => v = (.agg (X.map bv).toArray)
  | 34 => fun v _ => v = .bool true
  | 35 => fun v _ => v = .bool true
  | 36 => fun v _ => v = .bool true
  | 37 => fun v _ => v = .pointer (some ⟨b17, 3, none⟩)
  | 38 => fun v _ => v = .slice none 0 0
  | 39 => fun v _ => v = .int .i64 ((0 : Nat) : Int)
  | 40 => fun v _ => v = .bool true
  | 41 => fun v _ => v = .bool true
  | 42 => fun v _ => v = .bool true
  | 43 => fun v _ => v = .pointer (some ⟨b17, 0, none⟩)
  | 44 => fun v _ => v = .int .i64 0
  | 45 => fun v _ => v = .bool true
  | 46 => fun v _ => v = .bool true
  | 47 => fun v _ => v = .bool true
  | 48 => fun v _ => v = (.agg (I.map bv).toArray)
  | 49 => fun v _ => v = .slice A7 N7 c7
  | 50 => fun v _ => v = (.agg #[.int .i64 0, .slice none 0 0, .slice none 0 0, .slice none 0 0])
  | 51 => fun v _ => v = .bool false
  | 52 => fun v _ => v = .bool true
  | 53 => fun v _ => v = .bool true
  | 54 => fun v _ => v = .bool true
  | 55 => fun v _ => v = (.agg (I.map bv).toArray)
  | 56 => fun v _ => v = .slice A7 N7 c7
  | 57 => fun v _ => v = (.agg #[.int .i64 0, .slice none 0 0, .slice none 0 0, .slice none 0 0])
  | 58 => fun v _ => v = .bool false
  | 59 => fun v _ => v = .bool true
  | 60 => fun v _ => v = .bool true
  | 61 => fun v _ => v = .bool true
  | 62 => fun v _ => v = .bool true
  | 63 => fun v _ => v = .bool true
  | 64 => fun v _ => v = .bool true
  | _ => fun _ _ => True
theorem htcF_lasts (i j N7 c7 b17 g1a c1a g2a c2a g3a c3a g1b c1b g2b c2b g3b c3b : Nat) (x0 I X Y : List UInt8) (A7 : Option Addr) : ∀ kq, LastsB htcAl kq (htcF i j N7 c7 b17 g1a c1a g2a c2a g3a c3a g1b c1b g2b c2b g3b c3b x0 I X Y A7 kq)
  | 0 => LastsB.val _
  | 1 => LastsB.val _
  | 2 => LastsB.val _
  | 3 => LastsB.val _
  | 4 => LastsB.val _
  | 5 => LastsB.val _
  | 6 => LastsB.val _
  | 7 => LastsB.val _
  | 8 => LastsB.val _
  | 9 => LastsB.val _
  | 10 => LastsB.val _
  | 11 => LastsB.val _
  | 12 => LastsB.val _
  | 13 => LastsB.val _
  | 14 => LastsB.val _
  | 15 => LastsB.val _
  | 16 => LastsB.val _
  | 17 => LastsB.val _
  | 18 => LastsB.val _
  | 19 => LastsB.val _
  | 20 => LastsB.val _
  | 21 => LastsB.val _
  | 22 => LastsB.val _
  | 23 => LastsB.val _
  | 24 => LastsB.val _
  | 25 => LastsB.val _
  | 26 => LastsB.val _
  | 27 => LastsB.val _
  | 28 => LastsB.val _
  | 29 => LastsB.val _
  | 30 => LastsB.val _
  | 31 => LastsB.val _
  | 32 => LastsB.val _
  | 33 => LastsB.val _
  | 34 => LastsB.val _
  | 35 => LastsB.val _
  | 36 => LastsB.val _
  | 37 => LastsB.val _
  | 38 => LastsB.val _
  | 39 => LastsB.val _
  | 40 => LastsB.val _
  | 41 => LastsB.val _
  | 42 => LastsB.val _
  | 43 => LastsB.val _
  | 44 => LastsB.val _
  | 45 => LastsB.val _
  | 46 => LastsB.val _
  | 47 => LastsB.val _
  | 48 => LastsB.val _
  | 49 => LastsB.val _
  | 50 => LastsB.val _
  | 51 => LastsB.val _
  | 52 => LastsB.val _
  | 53 => LastsB.val _
  | 54 => LastsB.val _
  | 55 => LastsB.val _
  | 56 => LastsB.val _
  | 57 => LastsB.val _
  | 58 => LastsB.val _
  | 59 => LastsB.val _
  | 60 => LastsB.val _
  | 61 => LastsB.val _
  | 62 => LastsB.val _
  | 63 => LastsB.val _
  | 64 => LastsB.val _
  | _ + 65 => fun _ _ _ _ _ _ _ => trivial
set_option maxRecDepth 100000 in
set_option maxHeartbeats 2000000 in
theorem RingHeights_any (x0 : List UInt8) (hx0 : x0.length = 32) (n1 n2 : Int) (A1 : Option Addr) (l1 : List UInt8) (c1 : Nat) (W0 : World) (hk : Laid2 W0) (hr1 : RdB W0 A1 l1) (hc1 : l1.length ≤ c1) (hm1 : c1 ≤ maxLen) :
    Calls Tryd.prog 6 #[.agg (x0.map bv).toArray, .int .i64 n1, .int .i64 n2, .slice A1 l1.length c1] W0 fun e w' => e = .returned (.bool true) ∧ W0.grownBy w' none := by
  have hm1' : c1 ≤ 9223372036854775807 := hm1
  obtain ⟨mm, hmin0, hmn, hm60⟩ := min_some l1.length 30
  have hmin : (if (30 : Int) < (l1.length : Int) then (30 : Int) else (l1.length : Int)) = (mm : Int) := hmin0
  clear hmin0
  obtain ⟨L, hL⟩ : ∃ L, L = l1.take mm := ⟨_, rfl⟩
  have hLl : Hid (L.length = mm) := by show _ = _; rw [hL, List.length_take]; omega
  have hrL : RdB W0 A1 L := by rw [hL]; exact rd_takeB hr1 mm
  have hLb : L.length ≤ 1000 := by rw [hLl.out]; omega
  clear hL
  have hS := Lib.hid hx0
  clear hx0
  obtain ⟨i, hi, hWi⟩ : ∃ i : Nat, i < 16 ∧ ∀ w, Calls Tryd.prog 11 #[.int .i64 n1, .int .i64 1, .int .i64 16] w fun e w' => e = .returned (.int .i64 ((i : Int) + 1)) ∧ w = w' := by
    have hb := within_le (n := n1) (lo := 1) (hi := 16) (by omega)
    refine ⟨(within n1 1 16 - 1).toNat, by omega, fun w => ?_⟩
    rw [show ((within n1 1 16 - 1).toNat : Int) + 1 = within n1 1 16 by omega]
    exact Within_any n1 1 16 w (by omega) (by omega) (by omega)
  obtain ⟨j, hj, hWj⟩ : ∃ j : Nat, j < 16 ∧ ∀ w, Calls Tryd.prog 11 #[.int .i64 n2, .int .i64 1, .int .i64 16] w fun e w' => e = .returned (.int .i64 ((j : Int) + 1)) ∧ w = w' := by
    have hb := within_le (n := n2) (lo := 1) (hi := 16) (by omega)
    refine ⟨(within n2 1 16 - 1).toNat, by omega, fun w => ?_⟩
    rw [show ((within n2 1 16 - 1).toNat : Int) + 1 = within n2 1 16 by omega]
    exact Within_any n2 1 16 w (by omega) (by omega) (by omega)
  go_enter Tryd.func6, Tryd.ntmps6
  go_upto_region 1 with (fail)
  have hseed1 : (W0.alloc (.cells (x0.map bv).toArray 23)).heap[W0.heap.size]? = some (.cells (x0.map bv).toArray 23 (0, 0)) := alloc_at rfl
  have hg1 : W0.grownBy (W0.alloc (.cells (x0.map bv).toArray 23)) none := grown_alloc (grown_refl _ _) _
  generalize W0.alloc (.cells (x0.map bv).toArray 23) = W1 at hseed1 hg1 ⊢
  replace hrL := hrL.kept hg1
  have hk1 := hk.kept hg1
  have hid := fun w' (h : Laid2 w') => Ident_any x0 hS.out w' h
  obtain ⟨I, hI⟩ : ∃ I, I = identR x0 := ⟨_, rfl⟩
  have hIl : Hid (I.length = 32) := by rw [hI]; exact identR_len x0
  rw [← hI] at hid
  replace hI := Lib.hid hI
  go_upto_region 4 with (first
    | (at_builtin; refine wpList_appB _ rfl _ _ rfl rfl (ownB_new W1 #[] [] 0 rfl rfl (Nat.zero_le _)) (news := L) rfl hLl.out.symm (hrL.alloc _) (by simp; omega) ?_; intro v1 W2 ho1 hgr1; have hL1 : OwnB W2 v1 L := ho1; have hG1 := Grew.fresh hgr1; obtain ⟨A7, c7, rfl, hc7, hm7, hr7⟩ := hL1.slice; clear ho1 hgr1; have hsd := keep_of hseed1 hG1.nil)
    | (go_at_call 11; refine (hWi _).mono ?_; clear hWi; rintro e w5 ⟨rfl, h5w⟩; obtain rfl : W2 = w5 := h5w)
    | (go_at_call 11; refine (hWj _).mono ?_; clear hWj; rintro e w5 ⟨rfl, h5w⟩; obtain rfl : W2 = w5 := h5w)
    | (refine wpList_load_row rfl 23 _ rfl (W0.heap.size) rfl _ (x0.map bv).toArray (0, 0) _ (hsd) Tryd.underlying23 rfl (hashV_size _ hS.out) ?_)
    | (go_at_call 9; refine (hid _ (hk1.kept hG1.nil)).mono ?_; rintro e w6 ⟨rfl, hg6⟩)
    | (refine wpList_store_row rfl 23 _ _ rfl (w6.heap.size) (I.map bv).toArray rfl rfl 23 _ (alloc_at rfl) (hashV_size _ hIl.out) (by rw [show (I.map bv).toArray.size = 32 from by rw [List.size_toArray, List.length_map, hIl.out]]; rfl) (bv_all' _) ?_; generalize hW : World.setRow _ _ _ = W; have HW := new_hash hW; clear hW))
  have hgw : W1.grownBy W none := grown_same hG1.nil (grown_same hg6 HW.2)
  have hgW : W0.grownBy W none := grown_same hg1 hgw
  have hb := keep_of hseed1 hgw
  have hbI := HW.1
  replace hr7 := hr7.kept (grown_same hg6 HW.2)
  replace hk := hk.kept hgW
  have hsg1 := fun w' (h : W.grownBy w' none) => Sign_to x0 hS.out i hi A7 L c7 w' (hk.kept h) (hr7.kept h) hLb
  have hsg2 := fun w' (h : W.grownBy w' none) => Sign_to x0 hS.out j hj A7 L c7 w' (hk.kept h) (hr7.kept h) hLb
  have hver := fun w' (h : W.grownBy w' none) => hr7.kept h
  clear HW hsd hG1 hL1 hrL hr1 hmin hseed1 hid hg6 hgw hk1
  generalize w6.heap.size = b12 at hbI ⊢
  generalize hN7 : L.length = N7 at hsg1 hsg2 ⊢
  replace hN7 := Lib.hid hN7
  refine wp_region_gb (al := htaAl) 12 (N := 113) (S := htaS) (die := htaDie) (own := htaOwn) (F := htaF i j W.heap.size N7 c7 x0 L A7) (by kernel_rfl) (Nat.le_of_ble_eq_true (by kernel_rfl)) (fun h => absurd (show 12 < 12 from h) (Nat.lt_irrefl _)) (fun h => absurd (show 12 < 12 from h) (Nat.lt_irrefl _)) (by kernel_rfl) (by kernel_rfl) (Nat.le_of_ble_eq_true (by kernel_rfl)) (htaF_lasts i j W.heap.size N7 c7 x0 L A7) ?_ ?_
  · intro i o L' a w K hi ho hg hLi hout hpre houter hitem h1 h2 h3
    have hcases : i = 0 ∨ i = 1 ∨ i = 2 ∨ i = 3 ∨ i = 4 ∨ i = 5 ∨ i = 6 ∨ i = 7 ∨ i = 8 ∨ i = 9 ∨ i = 10 ∨ i = 11 := by omega
    rcases hcases with rfl | rfl | rfl | rfl | rfl | rfl | rfl | rfl | rfl | rfl | rfl | rfl
    · cases (show some _ = some o from ho)
      exact ⟨rfl, wp_load_row 23 _ rfl _ (houter _ rfl) _ (x0.map bv).toArray (0, 0) _ (keep_of hb hg) Tryd.underlying23 rfl (hashV_size _ (hS.out)) (h1 ⟨_, rfl⟩ _ _ (grown_refl _ none) rfl (nobl (blocks_bytes _)) (FreshB.none (blocks_bytes _)))⟩
    · cases (show some _ = some o from ho)
      exact ⟨rfl, wp_move rfl (h1 ⟨_, rfl⟩ _ _ (grown_refl _ none) (houter _ rfl) (by rw [houter _ rfl]; exact nobl rfl) (by rw [houter _ rfl]; exact FreshB.none rfl))⟩
    · cases (show some _ = some o from ho)
      exact ⟨rfl, wp_move rfl (h1 ⟨_, rfl⟩ _ _ (grown_refl _ none) (houter _ rfl) (by rw [houter _ rfl]; exact nobl rfl) (by rw [houter _ rfl]; exact FreshB.none rfl))⟩
    · cases (show some _ = some o from ho)
      have x31 : a.eval (.tmp 31) = (.agg (x0.map bv).toArray) := hitem 0 (by decide) ⟨hpre 0 rfl, hout _ (by decide)⟩
      have x32 : a.eval (.tmp 32) = .int .i64 ((i : Int) + 1) := hitem 1 (by decide) ⟨hpre 1 rfl, hout _ (by decide)⟩
      have x33 : a.eval (.tmp 33) = .slice A7 N7 c7 := hitem 2 (by decide) ⟨hpre 2 rfl, hout _ (by decide)⟩
      refine ⟨rfl, wp_call rfl Tryd.func8 (by kernel_rfl) (by kernel_rfl) (args := #[(.agg (x0.map bv).toArray), .int .i64 ((i : Int) + 1), .slice A7 N7 c7]) (by simp [x31, x32, x33]) ((hsg1 w hg).mono ?_)⟩
      rintro e w' ⟨v, rfl, hf', hg', hn', ht'⟩
      exact ⟨_, rfl, h1 ⟨_, rfl⟩ _ _ hg' (hf'.from hg.size) ht' (FreshB.new hn')⟩
    · cases (show some _ = some o from ho)
      exact ⟨rfl, wp_load_row 23 _ rfl _ (houter _ rfl) _ (x0.map bv).toArray (0, 0) _ (keep_of hb hg) Tryd.underlying23 rfl (hashV_size _ (hS.out)) (h1 ⟨_, rfl⟩ _ _ (grown_refl _ none) rfl (nobl (blocks_bytes _)) (FreshB.none (blocks_bytes _)))⟩
    · cases (show some _ = some o from ho)
      exact ⟨rfl, wp_move rfl (h1 ⟨_, rfl⟩ _ _ (grown_refl _ none) (houter _ rfl) (by rw [houter _ rfl]; exact nobl rfl) (by rw [houter _ rfl]; exact FreshB.none rfl))⟩
    · cases (show some _ = some o from ho)
      exact ⟨rfl, wp_move rfl (h1 ⟨_, rfl⟩ _ _ (grown_refl _ none) (houter _ rfl) (by rw [houter _ rfl]; exact nobl rfl) (by rw [houter _ rfl]; exact FreshB.none rfl))⟩
    · cases (show some _ = some o from ho)
      have x35 : a.eval (.tmp 35) = (.agg (x0.map bv).toArray) := hitem 4 (by decide) ⟨hpre 4 rfl, hout _ (by decide)⟩
      have x36 : a.eval (.tmp 36) = .int .i64 ((j : Int) + 1) := hitem 5 (by decide) ⟨hpre 5 rfl, hout _ (by decide)⟩
      have x37 : a.eval (.tmp 37) = .slice A7 N7 c7 := hitem 6 (by decide) ⟨hpre 6 rfl, hout _ (by decide)⟩
      refine ⟨rfl, wp_call rfl Tryd.func8 (by kernel_rfl) (by kernel_rfl) (args := #[(.agg (x0.map bv).toArray), .int .i64 ((j : Int) + 1), .slice A7 N7 c7]) (by simp [x35, x36, x37]) ((hsg2 w hg).mono ?_)⟩
      rintro e w' ⟨v, rfl, hf', hg', hn', ht'⟩
      exact ⟨_, rfl, h1 ⟨_, rfl⟩ _ _ hg' (hf'.from hg.size) ht' (FreshB.new hn')⟩
    · cases (show some _ = some o from ho)
      exact ⟨rfl, wp_alloc rfl (alloc_S _) (h1 ⟨_, rfl⟩ _ _ (grown_alloc (grown_refl _ _) _) ⟨_, rfl, heap_alloc_new _ _⟩ (new_lt _ _) (FreshB.new (new_ge _)))⟩
    · cases (show some _ = some o from ho)
      exact ⟨rfl, wp_alloc rfl (alloc_S _) (h1 ⟨_, rfl⟩ _ _ (grown_alloc (grown_refl _ _) _) ⟨_, rfl, heap_alloc_new _ _⟩ (new_lt _ _) (FreshB.new (new_ge _)))⟩
    · cases (show some _ = some o from ho)
      obtain ⟨b, e1, hb⟩ := hitem 8 (by decide) ⟨hpre 8 rfl, hLi⟩
      obtain ⟨C, e2, hc4, hcA⟩ := SigV.cells (hitem 3 (by decide) ⟨hpre 3 rfl, hout _ (by decide)⟩)
      replace e2 : a.eval (.tmp 34) = _ := e2
      exact ⟨rfl, wp_store_row 28 _ _ rfl b _ e1 e2 28 _ hb (by rw [hc4]; exact size_sig) (by rw [hc4]; rfl) hcA (h3 rfl 8 _ _ (some b) (by decide) ⟨hpre 8 rfl, hLi⟩ rfl rfl (grown_setRow (grown_refl _ _) (.inl rfl) _) (fun g e => by cases e; rw [show valB _ a 8 = _ from e1]; exact List.mem_singleton.2 rfl) ⟨b, _, (by rw [show valB _ a 10 = .tuple #[a.eval (.tmp 13), a.eval (.tmp 34)] from rfl, show a.eval (.tmp 13) = _ from e1, e2]), setRow_heap _ _ _ _ _ _ hb⟩ (fun g h => by rw [show valB _ a 10 = .tuple #[a.eval (.tmp 13), a.eval (.tmp 34)] from rfl, show a.eval (.tmp 13) = _ from e1] at h; rw [show valB _ a 8 = _ from e1]; exact h))⟩
    · cases (show some _ = some o from ho)
      obtain ⟨b, e1, hb⟩ := hitem 9 (by decide) ⟨hpre 9 rfl, hLi⟩
      obtain ⟨C, e2, hc4, hcA⟩ := SigV.cells (hitem 7 (by decide) ⟨hpre 7 rfl, hout _ (by decide)⟩)
      replace e2 : a.eval (.tmp 38) = _ := e2
      exact ⟨rfl, wp_store_row 28 _ _ rfl b _ e1 e2 28 _ hb (by rw [hc4]; exact size_sig) (by rw [hc4]; rfl) hcA (h3 rfl 9 _ _ (some b) (by decide) ⟨hpre 9 rfl, hLi⟩ rfl rfl (grown_setRow (grown_refl _ _) (.inl rfl) _) (fun g e => by cases e; rw [show valB _ a 9 = _ from e1]; exact List.mem_singleton.2 rfl) ⟨b, _, (by rw [show valB _ a 11 = .tuple #[a.eval (.tmp 14), a.eval (.tmp 38)] from rfl, show a.eval (.tmp 14) = _ from e1, e2]), setRow_heap _ _ _ _ _ _ hb⟩ (fun g h => by rw [show valB _ a 11 = .tuple #[a.eval (.tmp 14), a.eval (.tmp 38)] from rfl, show a.eval (.tmp 14) = _ from e1] at h; rw [show valB _ a 9 = _ from e1]; exact h))⟩
  · intro a wT hgT hend hap ha
    obtain ⟨f, hf⟩ : ∃ f : Nat → Value, f = fun t => a.tmps.getD t undef := ⟨_, rfl⟩
    obtain ⟨g1a, c1a, g2a, c2a, g3a, c3a, q34, sa⟩ := (hend 3 (by decide) (by decide)).1
    have s34 := (congrFun hf 34).trans q34
    obtain ⟨g1b, c1b, g2b, c2b, g3b, c3b, q38, sb⟩ := (hend 7 (by decide) (by decide)).1
    have s38 := (congrFun hf 38).trans q38
    obtain ⟨⟨b13, C13, q13, hh13⟩, fr13⟩ := hend 10 (by decide) (by decide)
    have f13 : W.heap.size ≤ b13 := fr13 rfl b13 (by rw [q13]; exact List.mem_singleton.2 rfl)
    have p13 := tuple_two (show Value.tuple #[_, _] = _ from q13)
    have s13 := (congrFun hf 13).trans p13.1
    have v13 : f 34 = .agg C13 := (congrFun hf 34).trans p13.2
    obtain rfl := Value.agg.inj (v13.symm.trans s34)
    clear v13
    obtain ⟨⟨b14, C14, q14, hh14⟩, fr14⟩ := hend 11 (by decide) (by decide)
    have f14 : W.heap.size ≤ b14 := fr14 rfl b14 (by rw [q14]; exact List.mem_singleton.2 rfl)
    have p14 := tuple_two (show Value.tuple #[_, _] = _ from q14)
    have s14 := (congrFun hf 14).trans p14.1
    have v14 : f 38 = .agg C14 := (congrFun hf 38).trans p14.2
    obtain rfl := Value.agg.inj (v14.symm.trans s38)
    clear v14
    have n13_14 : b13 ≠ b14 := fun e => hap 10 11 (by decide) (by decide) (by decide) (by decide) (by decide) rfl b14 (by rw [q14]; exact List.mem_singleton.2 rfl) (by rw [q13, e]; exact List.mem_singleton.2 rfl)
    rw [← hf] at ha
    clear hend hap
    clear hf
    clear q34 q38 q13 p13 fr13 q14 p14 fr14
    subst ha
    simp only [Act.put, fill, htaS, Nat.reduceAdd, Nat.reduceBEq, Bool.or_false, Bool.or_true, cond_true, cond_false, List.drop_succ_cons, List.drop_zero, s34, s38, s13, s14]
    clear s34 s38 s13 s14
    have hgT0 : W0.grownBy wT none := grown_same hgW hgT
    have hbT := keep_of hb hgT
    have hbIT := keep_of hbI hgT
    replace hk := hk.kept hgT
    have hrT := hr7.kept hgT
    have k0 := cell_at0 hh13
    have k1 := cell_at1 hh13
    have k2 := cell_at2 hh13
    have hwho := Who_any A7 L c7 g1a c1a g2a c2a _ _ (openF_len (seedR x0 (i + 1)) L) (shutF_len (seedR x0 (i + 1)) L) wT hk hrT hLb sa.2.2.2.2.2.2.1 sa.2.2.2.2.2.2.2.1
    have hX0 : whoF L (openF (seedR x0 (i + 1)) L) (shutF (seedR x0 (i + 1)) L) = keyL (seedR x0 (i + 1)) := whoF_sign _ _
    rw [hX0, hN7.out] at hwho
    obtain ⟨X, hX⟩ : ∃ X, X = keyL (seedR x0 (i + 1)) := ⟨_, rfl⟩
    have hXl : Hid (X.length = 32) := by rw [hX]; exact keyL_len' _
    rw [← hX] at hwho
    replace hX := Lib.hid hX
    have hs17 := fun w' => Sign_no x0 17 (by omega) A7 N7 c7 w'
    clear hX0 hgT hb hbI hr7 hsg1 hsg2
    go_upto_region 7 with (first
        | (go_at_call 18; refine hwho.mono ?_; clear hwho; rintro e w8 ⟨rfl, hg8⟩)
        | (refine wpList_store_row rfl 23 _ _ rfl (w8.heap.size) (X.map bv).toArray rfl rfl 23 _ (alloc_at rfl) (hashV_size _ hXl.out) (by rw [show (X.map bv).toArray.size = 32 from by rw [List.size_toArray, List.length_map, hXl.out]]; rfl) (bv_all' _) ?_; generalize hV1 : World.setRow _ _ _ = V1; have HV1 := new_hash hV1; clear hV1)
        | (refine wpList_load_row rfl 23 _ rfl (W0.heap.size) rfl _ (x0.map bv).toArray (0, 0) _ ((keep_of hbT (grown_same hg8 HV1.2))) Tryd.underlying23 rfl (hashV_size _ hS.out) ?_)
        | (go_at_call 8; refine (hs17 _).mono ?_; rintro e w9 ⟨rfl, hg9⟩)
        | (refine wpList_store_row rfl 28 _ _ rfl (w9.heap.size) #[.int .i64 0, .slice none 0 0, .slice none 0 0, .slice none 0 0] rfl rfl 28 _ (alloc_at rfl) size_sig rfl (sig_all _ _ _ _ rfl rfl rfl rfl) ?_; generalize hU3 : World.setRow _ _ _ = W7; have HU3 := new_hash hU3; clear hU3))
    have gT7 : wT.grownBy W7 none := grown_same (grown_same hg8 HV1.2) (grown_same hg9 HU3.2)
    have hX7 := keep_of HV1.1 (grown_same hg9 HU3.2)
    have hZ7 := HU3.1
    have hb7 := keep_of hbT gT7
    have hI7 := keep_of hbIT gT7
    have hA7 := keep_of hh13 gT7
    have hB7 := keep_of hh14 gT7
    have hg7 := grown_same hgT0 gT7
    replace hk := hk.kept gT7
    replace hrT := hrT.kept gT7
    obtain ⟨-, -, -, -, a5, -, r1, r2, r3, -⟩ := sa
    obtain ⟨-, -, -, -, b5, -, s1, s2, s3, -⟩ := sb
    replace r1 := r1.kept gT7
    replace r2 := r2.kept gT7
    replace r3 := r3.kept gT7
    replace s1 := s1.kept gT7
    replace s2 := s2.kept gT7
    replace s3 := s3.kept gT7
    have hok : ∀ i, i < 16 → verR I L (openF (seedR x0 (i + 1)) L) (shutF (seedR x0 (i + 1)) L) i (pathR x0 i) 4 = true := fun i hi => by
      rw [verR, whoF_sign, up_ident x0 i hi, hI.out]; simp
    have hvA : ∀ w', W7.grownBy w' none → Calls Tryd.prog 10 #[.agg (I.map bv).toArray, .int .i64 ((i : Int) + 1), .slice A7 N7 c7, .agg #[.int .i64 ((i : Int) + 1), .slice (some ⟨g1a, 0, none⟩) 32 c1a, .slice (some ⟨g2a, 0, none⟩) 32 c2a, .slice (some ⟨g3a, 0, none⟩) 4 c3a]] w' fun e w'' => e = .returned (.bool true) ∧ w'.grownBy w'' none := fun w' hg => by
      have h := Verify_in I hIl.out i hi A7 L c7 g1a c1a g2a c2a _ _ (openF_len (seedR x0 (i + 1)) L) (shutF_len (seedR x0 (i + 1)) L) g3a 0 4 c3a (pathR x0 i) (pathR_len x0 i hi) a5 (fun _ => rfl) w' (hk.kept hg) (hrT.kept hg) hLb (r1.kept hg) (r2.kept hg) (r3.kept hg)
      rw [hok i hi, hN7.out, show ((i + 1 : Nat) : Int) = (i : Int) + 1 by omega] at h
      exact h
    have hvB : ∀ w', W7.grownBy w' none → Calls Tryd.prog 10 #[.agg (I.map bv).toArray, .int .i64 ((j : Int) + 1), .slice A7 N7 c7, .agg #[.int .i64 ((j : Int) + 1), .slice (some ⟨g1b, 0, none⟩) 32 c1b, .slice (some ⟨g2b, 0, none⟩) 32 c2b, .slice (some ⟨g3b, 0, none⟩) 4 c3b]] w' fun e w'' => e = .returned (.bool true) ∧ w'.grownBy w'' none := fun w' hg => by
      have h := Verify_in I hIl.out j hj A7 L c7 g1b c1b g2b c2b _ _ (openF_len (seedR x0 (j + 1)) L) (shutF_len (seedR x0 (j + 1)) L) g3b 0 4 c3b (pathR x0 j) (pathR_len x0 j hj) b5 (fun _ => rfl) w' (hk.kept hg) (hrT.kept hg) hLb (s1.kept hg) (s2.kept hg) (s3.kept hg)
      rw [hok j hj, hN7.out, show ((j + 1 : Nat) : Int) = (j : Int) + 1 by omega] at h
      exact h
    have hv17 := fun w' => Verify_no I 17 0 (.inr (.inl (by omega))) A7 N7 c7 (.slice none 0 0) (.slice none 0 0) (.slice none 0 0) w'
    have hv0 := fun w' => Verify_no I 0 0 (.inl (by omega)) A7 N7 c7 (.slice none 0 0) (.slice none 0 0) (.slice none 0 0) w'
    obtain ⟨Y, hY⟩ : ∃ Y, Y = seedR x0 (i + 1) := ⟨_, rfl⟩
    have hsd : ∀ w', Laid2 w' → Calls Tryd.prog 15 #[.agg (x0.map bv).toArray, .int .i64 ((i : Int) + 1)] w' fun e w'' => e = .returned (.agg (Y.map bv).toArray) ∧ w'.grownBy w'' none := fun w' h => by
      have h := Seed_any x0 hS.out (i + 1) (by omega) w' h
      rw [show ((i + 1 : Nat) : Int) = (i : Int) + 1 by omega, ← hY] at h
      exact h
    have hky : ∀ w', Laid2 w' → Calls Tryd.prog 19 #[.agg (Y.map bv).toArray] w' fun e w'' => e = .returned (.agg (X.map bv).toArray) ∧ w'.grownBy w'' none := fun w' h => by
      have h := Key_any Y (by rw [hY]; exact seedR_len _ _) w' h
      rw [hY, ← hX.out, ← hY] at h
      exact h
    clear hY hok HV1 HU3 hg8 hg9 hbT hbIT hh13 hh14 k0 k1 k2 gT7 hgT0 r1 r2 r3 s1 s2 s3 hrT hs17
    generalize w8.heap.size = b15 at hX7 ⊢
    generalize w9.heap.size = b17 at hZ7 ⊢
    simp only [Act.put]
    by_cases hij : i = j
    · replace hij := Lib.hid hij
      refine wp_region_gc (al := htbAl) 65 (N := 113) (S := htbS) (die := htbDie) (own := htbOwn) (F := htbF i j N7 c7 b17 g1a c1a g2a c2a g3a c3a g1b c1b g2b c2b g3b c3b x0 I X Y A7) (by kernel_rfl) (Nat.le_of_ble_eq_true (by kernel_rfl)) (fun h => absurd (show 65 < 65 from h) (Nat.lt_irrefl _)) (fun h => absurd (show 65 < 65 from h) (Nat.lt_irrefl _)) (by kernel_rfl) (by kernel_rfl) (Nat.le_of_ble_eq_true (by kernel_rfl)) (htbF_lasts i j N7 c7 b17 g1a c1a g2a c2a g3a c3a g1b c1b g2b c2b g3b c3b x0 I X Y A7) ?_ ?_
      · intro i o L' a w K hi ho hg hLi hout hpre houter hitem hap' h1 h2 h3 h4
        have hcases : i = 0 ∨ i = 1 ∨ i = 2 ∨ i = 3 ∨ i = 4 ∨ i = 5 ∨ i = 6 ∨ i = 7 ∨ i = 8 ∨ i = 9 ∨ i = 10 ∨ i = 11 ∨ i = 12 ∨ i = 13 ∨ i = 14 ∨ i = 15 ∨ i = 16 ∨ i = 17 ∨ i = 18 ∨ i = 19 ∨ i = 20 ∨ i = 21 ∨ i = 22 ∨ i = 23 ∨ i = 24 ∨ i = 25 ∨ i = 26 ∨ i = 27 ∨ i = 28 ∨ i = 29 ∨ i = 30 ∨ i = 31 ∨ i = 32 ∨ i = 33 ∨ i = 34 ∨ i = 35 ∨ i = 36 ∨ i = 37 ∨ i = 38 ∨ i = 39 ∨ i = 40 ∨ i = 41 ∨ i = 42 ∨ i = 43 ∨ i = 44 ∨ i = 45 ∨ i = 46 ∨ i = 47 ∨ i = 48 ∨ i = 49 ∨ i = 50 ∨ i = 51 ∨ i = 52 ∨ i = 53 ∨ i = 54 ∨ i = 55 ∨ i = 56 ∨ i = 57 ∨ i = 58 ∨ i = 59 ∨ i = 60 ∨ i = 61 ∨ i = 62 ∨ i = 63 ∨ i = 64 := by omega
        rcases hcases with rfl | rfl | rfl | rfl | rfl | rfl | rfl | rfl | rfl | rfl | rfl | rfl | rfl | rfl | rfl | rfl | rfl | rfl | rfl | rfl | rfl | rfl | rfl | rfl | rfl | rfl | rfl | rfl | rfl | rfl | rfl | rfl | rfl | rfl | rfl | rfl | rfl | rfl | rfl | rfl | rfl | rfl | rfl | rfl | rfl | rfl | rfl | rfl | rfl | rfl | rfl | rfl | rfl | rfl | rfl | rfl | rfl | rfl | rfl | rfl | rfl | rfl | rfl | rfl | rfl
        · cases (show some _ = some o from ho)
          refine .inl ?_
          exact ⟨rfl, wp_load_row 23 _ rfl _ (houter _ rfl) _ (I.map bv).toArray (0, 0) _ (keep_of hI7 hg) Tryd.underlying23 rfl (hashV_size _ (hIl.out)) (h1 ⟨_, rfl⟩ _ _ (grown_refl _ none) rfl (nobl (blocks_bytes _)) (FreshB.none (blocks_bytes _)))⟩
        · cases (show some _ = some o from ho)
          refine .inl ?_
          exact ⟨rfl, wp_move rfl (h1 ⟨_, rfl⟩ _ _ (grown_refl _ none) (houter _ rfl) (by rw [houter _ rfl]; exact nobl rfl) (by rw [houter _ rfl]; exact FreshB.none rfl))⟩
        · cases (show some _ = some o from ho)
          refine .inl ?_
          exact ⟨rfl, wp_move rfl (h1 ⟨_, rfl⟩ _ _ (grown_refl _ none) (houter _ rfl) (by rw [houter _ rfl]; exact nobl rfl) (by rw [houter _ rfl]; exact FreshB.none rfl))⟩
        · cases (show some _ = some o from ho)
          refine .inl ?_
          exact ⟨rfl, wp_load_row 28 _ rfl _ (houter _ rfl) _ #[.int .i64 ((i : Int) + 1), .slice (some ⟨g1a, 0, none⟩) 32 c1a, .slice (some ⟨g2a, 0, none⟩) 32 c2a, .slice (some ⟨g3a, 0, none⟩) 4 c3a] (0, 0) _ (keep_of hA7 hg) Tryd.underlying28 rfl (size_sig) (h1 ⟨_, rfl⟩ _ _ (grown_refl _ none) rfl (nobl rfl) (FreshB.none rfl))⟩
        · cases (show some _ = some o from ho)
          refine .inl ?_
          have x49 : a.eval (.tmp 49) = (.agg (I.map bv).toArray) := hitem 0 (by decide) ⟨hpre 0 rfl, hout _ (by decide)⟩
          have x50 : a.eval (.tmp 50) = .int .i64 ((i : Int) + 1) := hitem 1 (by decide) ⟨hpre 1 rfl, hout _ (by decide)⟩
          have x51 : a.eval (.tmp 51) = .slice A7 N7 c7 := hitem 2 (by decide) ⟨hpre 2 rfl, hout _ (by decide)⟩
          have x52 : a.eval (.tmp 52) = (.agg #[.int .i64 ((i : Int) + 1), .slice (some ⟨g1a, 0, none⟩) 32 c1a, .slice (some ⟨g2a, 0, none⟩) 32 c2a, .slice (some ⟨g3a, 0, none⟩) 4 c3a]) := hitem 3 (by decide) ⟨hpre 3 rfl, hout _ (by decide)⟩
          refine ⟨rfl, wp_call rfl Tryd.func10 (by kernel_rfl) (by kernel_rfl) (args := #[(.agg (I.map bv).toArray), .int .i64 ((i : Int) + 1), .slice A7 N7 c7, .agg #[.int .i64 ((i : Int) + 1), .slice (some ⟨g1a, 0, none⟩) 32 c1a, .slice (some ⟨g2a, 0, none⟩) 32 c2a, .slice (some ⟨g3a, 0, none⟩) 4 c3a]]) (by simp [x49, x50, x51, x52]) ((hvA w hg).mono ?_)⟩
          rintro e w' ⟨rfl, hg'⟩
          exact ⟨_, rfl, h1 ⟨_, rfl⟩ _ _ hg' rfl (nobl rfl) (FreshB.none rfl)⟩
        · cases (show some _ = some o from ho)
          refine .inl ?_
          have hx := hitem 4 (by decide) ⟨hpre 4 rfl, hout _ (by decide)⟩
          exact ⟨rfl, wp_move rfl (h1 ⟨_, rfl⟩ _ _ (grown_refl _ none) hx (by rw [show a.eval (.tmp 53) = .bool true from hx]; exact nobl rfl) (by rw [show a.eval (.tmp 53) = .bool true from hx]; exact FreshB.none rfl))⟩
        · cases (show some _ = some o from ho)
          refine .inl ?_
          exact ⟨wanted_of (j := 5) rfl rfl (hitem 5 (by decide) ⟨hpre 5 rfl, hout _ (by decide)⟩), wp_load_row 23 _ rfl _ (houter _ rfl) _ (I.map bv).toArray (0, 0) _ (keep_of hI7 hg) Tryd.underlying23 rfl (hashV_size _ (hIl.out)) (h1 ⟨_, rfl⟩ _ _ (grown_refl _ none) rfl (nobl (blocks_bytes _)) (FreshB.none (blocks_bytes _)))⟩
        · cases (show some _ = some o from ho)
          refine .inl ?_
          exact ⟨wanted_of (j := 5) rfl rfl (hitem 5 (by decide) ⟨hpre 5 rfl, hout _ (by decide)⟩), wp_move rfl (h1 ⟨_, rfl⟩ _ _ (grown_refl _ none) (houter _ rfl) (by rw [houter _ rfl]; exact nobl rfl) (by rw [houter _ rfl]; exact FreshB.none rfl))⟩
        · cases (show some _ = some o from ho)
          refine .inl ?_
          exact ⟨wanted_of (j := 5) rfl rfl (hitem 5 (by decide) ⟨hpre 5 rfl, hout _ (by decide)⟩), wp_move rfl (h1 ⟨_, rfl⟩ _ _ (grown_refl _ none) (houter _ rfl) (by rw [houter _ rfl]; exact nobl rfl) (by rw [houter _ rfl]; exact FreshB.none rfl))⟩
        · cases (show some _ = some o from ho)
          refine .inl ?_
          exact ⟨wanted_of (j := 5) rfl rfl (hitem 5 (by decide) ⟨hpre 5 rfl, hout _ (by decide)⟩), wp_load_row 28 _ rfl _ (houter _ rfl) _ #[.int .i64 ((j : Int) + 1), .slice (some ⟨g1b, 0, none⟩) 32 c1b, .slice (some ⟨g2b, 0, none⟩) 32 c2b, .slice (some ⟨g3b, 0, none⟩) 4 c3b] (0, 0) _ (keep_of hB7 hg) Tryd.underlying28 rfl (size_sig) (h1 ⟨_, rfl⟩ _ _ (grown_refl _ none) rfl (nobl rfl) (FreshB.none rfl))⟩
        · cases (show some _ = some o from ho)
          refine .inl ?_
          have x55 : a.eval (.tmp 55) = (.agg (I.map bv).toArray) := hitem 6 (by decide) ⟨hpre 6 rfl, hout _ (by decide)⟩
          have x56 : a.eval (.tmp 56) = .int .i64 ((j : Int) + 1) := hitem 7 (by decide) ⟨hpre 7 rfl, hout _ (by decide)⟩
          have x57 : a.eval (.tmp 57) = .slice A7 N7 c7 := hitem 8 (by decide) ⟨hpre 8 rfl, hout _ (by decide)⟩
          have x58 : a.eval (.tmp 58) = (.agg #[.int .i64 ((j : Int) + 1), .slice (some ⟨g1b, 0, none⟩) 32 c1b, .slice (some ⟨g2b, 0, none⟩) 32 c2b, .slice (some ⟨g3b, 0, none⟩) 4 c3b]) := hitem 9 (by decide) ⟨hpre 9 rfl, hout _ (by decide)⟩
          refine ⟨wanted_of (j := 5) rfl rfl (hitem 5 (by decide) ⟨hpre 5 rfl, hout _ (by decide)⟩), wp_call rfl Tryd.func10 (by kernel_rfl) (by kernel_rfl) (args := #[(.agg (I.map bv).toArray), .int .i64 ((j : Int) + 1), .slice A7 N7 c7, .agg #[.int .i64 ((j : Int) + 1), .slice (some ⟨g1b, 0, none⟩) 32 c1b, .slice (some ⟨g2b, 0, none⟩) 32 c2b, .slice (some ⟨g3b, 0, none⟩) 4 c3b]]) (by simp [x55, x56, x57, x58]) ((hvB w hg).mono ?_)⟩
          rintro e w' ⟨rfl, hg'⟩
          exact ⟨_, rfl, h1 ⟨_, rfl⟩ _ _ hg' rfl (nobl rfl) (FreshB.none rfl)⟩
        · cases (show some _ = some o from ho)
          refine .inl ?_
          have hc := hitem 5 (by decide) ⟨hpre 5 rfl, hout _ (by decide)⟩
          have hx := hitem 10 (by decide) ⟨hpre 10 rfl, hout _ (by decide)⟩
          exact ⟨rfl, wp_pick rfl hc (h1 ⟨_, rfl⟩ _ _ (grown_refl _ none) hx (by rw [show a.eval (.tmp 59) = .bool true from hx]; exact nobl rfl) (by rw [show a.eval (.tmp 59) = .bool true from hx]; exact FreshB.none rfl))⟩
        · cases (show some _ = some o from ho)
          refine .inl ?_
          have hx := hitem 11 (by decide) ⟨hpre 11 rfl, hout _ (by decide)⟩
          exact ⟨rfl, wp_move rfl (h1 ⟨_, rfl⟩ _ _ (grown_refl _ none) hx (by rw [show a.eval (.tmp 60) = .bool true from hx]; exact nobl rfl) (by rw [show a.eval (.tmp 60) = .bool true from hx]; exact FreshB.none rfl))⟩
        · cases (show some _ = some o from ho)
          refine .inl ?_
          exact ⟨wanted_of (j := 12) rfl rfl (hitem 12 (by decide) ⟨hpre 12 rfl, hout _ (by decide)⟩), wp_move rfl (h1 ⟨_, rfl⟩ _ _ (grown_refl _ none) (houter _ rfl) (by rw [houter _ rfl]; exact nobl rfl) (by rw [houter _ rfl]; exact FreshB.none rfl))⟩
        · cases (show some _ = some o from ho)
          refine .inl ?_
          exact ⟨wanted_of (j := 12) rfl rfl (hitem 12 (by decide) ⟨hpre 12 rfl, hout _ (by decide)⟩), wp_move rfl (h1 ⟨_, rfl⟩ _ _ (grown_refl _ none) (houter _ rfl) (by rw [houter _ rfl]; exact nobl rfl) (by rw [houter _ rfl]; exact FreshB.none rfl))⟩
        · cases (show some _ = some o from ho)
          refine .inl ?_
          exact ⟨wanted_of (j := 12) rfl rfl (hitem 12 (by decide) ⟨hpre 12 rfl, hout _ (by decide)⟩), wp_bin rfl (hitem 13 (by decide) ⟨hpre 13 rfl, hout _ (by decide)⟩) (hitem 14 (by decide) ⟨hpre 14 rfl, hout _ (by decide)⟩) (guard_int _ _ _ _ _) (eql_i64 _ _ _ ((by rw [hij.out]))) (h1 ⟨_, rfl⟩ _ _ (grown_refl _ none) rfl (nobl rfl) (FreshB.none rfl))⟩
        · cases (show some _ = some o from ho)
          refine .inl ?_
          have hx := hitem 15 (by decide) ⟨hpre 15 rfl, hout _ (by decide)⟩
          exact ⟨wanted_of (j := 12) rfl rfl (hitem 12 (by decide) ⟨hpre 12 rfl, hout _ (by decide)⟩), wp_move rfl (h1 ⟨_, rfl⟩ _ _ (grown_refl _ none) hx (by rw [show a.eval (.tmp 64) = .bool true from hx]; exact nobl rfl) (by rw [show a.eval (.tmp 64) = .bool true from hx]; exact FreshB.none rfl))⟩
        · cases (show some _ = some o from ho)
          exact .inr ⟨unwanted_false (j := 16) rfl rfl (hitem 16 (by decide) ⟨hpre 16 rfl, hout _ (by decide)⟩), h1 ⟨_, rfl⟩ _ _ (grown_refl _ none) rfl (nobl rfl) (FreshB.none rfl)⟩
        · cases (show some _ = some o from ho)
          exact .inr ⟨unwanted_false (j := 16) rfl rfl (hitem 16 (by decide) ⟨hpre 16 rfl, hout _ (by decide)⟩), h1 ⟨_, rfl⟩ _ _ (grown_refl _ none) rfl (nobl rfl) (FreshB.none rfl)⟩
        · cases (show some _ = some o from ho)
          exact .inr ⟨unwanted_false (j := 16) rfl rfl (hitem 16 (by decide) ⟨hpre 16 rfl, hout _ (by decide)⟩), h1 ⟨_, rfl⟩ _ _ (grown_refl _ none) rfl (nobl rfl) (FreshB.none rfl)⟩
        · cases (show some _ = some o from ho)
          exact .inr ⟨unwanted_false (j := 16) rfl rfl (hitem 16 (by decide) ⟨hpre 16 rfl, hout _ (by decide)⟩), h1 ⟨_, rfl⟩ _ _ (grown_refl _ none) rfl (nobl rfl) (FreshB.none rfl)⟩
        · cases (show some _ = some o from ho)
          exact .inr ⟨unwanted_false (j := 16) rfl rfl (hitem 16 (by decide) ⟨hpre 16 rfl, hout _ (by decide)⟩), h1 ⟨_, rfl⟩ _ _ (grown_refl _ none) rfl (nobl rfl) (FreshB.none rfl)⟩
        · cases (show some _ = some o from ho)
          exact .inr ⟨unwanted_false (j := 16) rfl rfl (hitem 16 (by decide) ⟨hpre 16 rfl, hout _ (by decide)⟩), h1 ⟨_, rfl⟩ _ _ (grown_refl _ none) rfl (nobl rfl) (FreshB.none rfl)⟩
        · cases (show some _ = some o from ho)
          refine .inl ?_
          have hc := hitem 16 (by decide) ⟨hpre 16 rfl, hout _ (by decide)⟩
          exact ⟨wanted_of (j := 12) rfl rfl (hitem 12 (by decide) ⟨hpre 12 rfl, hout _ (by decide)⟩), wp_pick rfl hc (h1 ⟨_, rfl⟩ _ _ (grown_refl _ none) rfl (nobl rfl) (FreshB.none rfl))⟩
        · cases (show some _ = some o from ho)
          refine .inl ?_
          have hc := hitem 12 (by decide) ⟨hpre 12 rfl, hout _ (by decide)⟩
          have hx := hitem 23 (by decide) ⟨hpre 23 rfl, hout _ (by decide)⟩
          exact ⟨rfl, wp_pick rfl hc (h1 ⟨_, rfl⟩ _ _ (grown_refl _ none) hx (by rw [show a.eval (.tmp 72) = .bool true from hx]; exact nobl rfl) (by rw [show a.eval (.tmp 72) = .bool true from hx]; exact FreshB.none rfl))⟩
        · cases (show some _ = some o from ho)
          refine .inl ?_
          have hx := hitem 24 (by decide) ⟨hpre 24 rfl, hout _ (by decide)⟩
          exact ⟨rfl, wp_move rfl (h1 ⟨_, rfl⟩ _ _ (grown_refl _ none) hx (by rw [show a.eval (.tmp 73) = .bool true from hx]; exact nobl rfl) (by rw [show a.eval (.tmp 73) = .bool true from hx]; exact FreshB.none rfl))⟩
        · cases (show some _ = some o from ho)
          refine .inl ?_
          exact ⟨wanted_of (j := 25) rfl rfl (hitem 25 (by decide) ⟨hpre 25 rfl, hout _ (by decide)⟩), wp_move rfl (h1 ⟨_, rfl⟩ _ _ (grown_refl _ none) (houter _ rfl) (by rw [houter _ rfl]; exact nobl rfl) (by rw [houter _ rfl]; exact FreshB.none rfl))⟩
        · cases (show some _ = some o from ho)
          refine .inl ?_
          have hc := hitem 25 (by decide) ⟨hpre 25 rfl, hout _ (by decide)⟩
          have hx := hitem 26 (by decide) ⟨hpre 26 rfl, hout _ (by decide)⟩
          exact ⟨rfl, wp_pick rfl hc (h1 ⟨_, rfl⟩ _ _ (grown_refl _ none) hx (by rw [show a.eval (.tmp 75) = .bool true from hx]; exact nobl rfl) (by rw [show a.eval (.tmp 75) = .bool true from hx]; exact FreshB.none rfl))⟩
        · cases (show some _ = some o from ho)
          refine .inl ?_
          have hx := hitem 27 (by decide) ⟨hpre 27 rfl, hout _ (by decide)⟩
          exact ⟨rfl, wp_move rfl (h1 ⟨_, rfl⟩ _ _ (grown_refl _ none) hx (by rw [show a.eval (.tmp 76) = .bool true from hx]; exact nobl rfl) (by rw [show a.eval (.tmp 76) = .bool true from hx]; exact FreshB.none rfl))⟩
        · cases (show some _ = some o from ho)
          refine .inl ?_
          exact ⟨wanted_of (j := 28) rfl rfl (hitem 28 (by decide) ⟨hpre 28 rfl, hout _ (by decide)⟩), wp_load_row 23 _ rfl _ (houter _ rfl) _ (X.map bv).toArray (0, 0) _ (keep_of hX7 hg) Tryd.underlying23 rfl (hashV_size _ (hXl.out)) (h1 ⟨_, rfl⟩ _ _ (grown_refl _ none) rfl (nobl (blocks_bytes _)) (FreshB.none (blocks_bytes _)))⟩
        · cases (show some _ = some o from ho)
          refine .inl ?_
          exact ⟨wanted_of (j := 28) rfl rfl (hitem 28 (by decide) ⟨hpre 28 rfl, hout _ (by decide)⟩), wp_load_row 23 _ rfl _ (houter _ rfl) _ (x0.map bv).toArray (0, 0) _ (keep_of hb7 hg) Tryd.underlying23 rfl (hashV_size _ (hS.out)) (h1 ⟨_, rfl⟩ _ _ (grown_refl _ none) rfl (nobl (blocks_bytes _)) (FreshB.none (blocks_bytes _)))⟩
        · cases (show some _ = some o from ho)
          refine .inl ?_
          exact ⟨wanted_of (j := 28) rfl rfl (hitem 28 (by decide) ⟨hpre 28 rfl, hout _ (by decide)⟩), wp_move rfl (h1 ⟨_, rfl⟩ _ _ (grown_refl _ none) (houter _ rfl) (by rw [houter _ rfl]; exact nobl rfl) (by rw [houter _ rfl]; exact FreshB.none rfl))⟩
        · cases (show some _ = some o from ho)
          refine .inl ?_
          have x79 : a.eval (.tmp 79) = (.agg (x0.map bv).toArray) := hitem 30 (by decide) ⟨hpre 30 rfl, hout _ (by decide)⟩
          have x80 : a.eval (.tmp 80) = .int .i64 ((i : Int) + 1) := hitem 31 (by decide) ⟨hpre 31 rfl, hout _ (by decide)⟩
          refine ⟨wanted_of (j := 28) rfl rfl (hitem 28 (by decide) ⟨hpre 28 rfl, hout _ (by decide)⟩), wp_call rfl Tryd.func15 (by kernel_rfl) (by kernel_rfl) (args := #[(.agg (x0.map bv).toArray), .int .i64 ((i : Int) + 1)]) (by simp [x79, x80]) ((hsd w (hk.kept hg)).mono ?_)⟩
          rintro e w' ⟨rfl, hg'⟩
          exact ⟨_, rfl, h1 ⟨_, rfl⟩ _ _ hg' rfl (nobl (blocks_bytes _)) (FreshB.none (blocks_bytes _))⟩
        · cases (show some _ = some o from ho)
          refine .inl ?_
          have x81 : a.eval (.tmp 81) = (.agg (Y.map bv).toArray) := hitem 32 (by decide) ⟨hpre 32 rfl, hout _ (by decide)⟩
          refine ⟨wanted_of (j := 28) rfl rfl (hitem 28 (by decide) ⟨hpre 28 rfl, hout _ (by decide)⟩), wp_call rfl Tryd.func19 (by kernel_rfl) (by kernel_rfl) (args := #[(.agg (Y.map bv).toArray)]) (by simp [x81]) ((hky w (hk.kept hg)).mono ?_)⟩
          rintro e w' ⟨rfl, hg'⟩
          exact ⟨_, rfl, h1 ⟨_, rfl⟩ _ _ hg' rfl (nobl (blocks_bytes _)) (FreshB.none (blocks_bytes _))⟩
        · cases (show some _ = some o from ho)
          refine .inl ?_
          exact ⟨wanted_of (j := 28) rfl rfl (hitem 28 (by decide) ⟨hpre 28 rfl, hout _ (by decide)⟩), wp_bin rfl (hitem 29 (by decide) ⟨hpre 29 rfl, hout _ (by decide)⟩) (hitem 33 (by decide) ⟨hpre 33 rfl, hout _ (by decide)⟩) (guard_hash _ _ _ _ _) (eqlH_same X hXl.out _) (h1 ⟨_, rfl⟩ _ _ (grown_refl _ none) rfl (nobl rfl) (FreshB.none rfl))⟩
        · cases (show some _ = some o from ho)
          refine .inl ?_
          have hc := hitem 28 (by decide) ⟨hpre 28 rfl, hout _ (by decide)⟩
          have hx := hitem 34 (by decide) ⟨hpre 34 rfl, hout _ (by decide)⟩
          exact ⟨rfl, wp_pick rfl hc (h1 ⟨_, rfl⟩ _ _ (grown_refl _ none) hx (by rw [show a.eval (.tmp 83) = .bool true from hx]; exact nobl rfl) (by rw [show a.eval (.tmp 83) = .bool true from hx]; exact FreshB.none rfl))⟩
        · cases (show some _ = some o from ho)
          refine .inl ?_
          have hx := hitem 35 (by decide) ⟨hpre 35 rfl, hout _ (by decide)⟩
          exact ⟨rfl, wp_move rfl (h1 ⟨_, rfl⟩ _ _ (grown_refl _ none) hx (by rw [show a.eval (.tmp 84) = .bool true from hx]; exact nobl rfl) (by rw [show a.eval (.tmp 84) = .bool true from hx]; exact FreshB.none rfl))⟩
        · cases (show some _ = some o from ho)
          refine .inl ?_
          exact ⟨wanted_of (j := 36) rfl rfl (hitem 36 (by decide) ⟨hpre 36 rfl, hout _ (by decide)⟩), wp_field rfl (houter 17 rfl) (field_S2 _) (h1 ⟨_, rfl⟩ _ _ (grown_refl _ none) rfl (nobl rfl) (FreshB.none rfl))⟩
        · cases (show some _ = some o from ho)
          refine .inl ?_
          exact ⟨wanted_of (j := 36) rfl rfl (hitem 36 (by decide) ⟨hpre 36 rfl, hout _ (by decide)⟩), wp_loadC rfl (hitem 37 (by decide) ⟨hpre 37 rfl, hout _ (by decide)⟩) (load_cell (cell_at3 (keep_of hZ7 hg)) Tryd.underlying24 rfl) (h1 ⟨_, rfl⟩ _ _ (grown_refl _ none) rfl (nobl rfl) (FreshB.none rfl))⟩
        · cases (show some _ = some o from ho)
          refine .inl ?_
          exact ⟨wanted_of (j := 36) rfl rfl (hitem 36 (by decide) ⟨hpre 36 rfl, hout _ (by decide)⟩), wp_len rfl (by kernel_rfl) (hitem 38 (by decide) ⟨hpre 38 rfl, hout _ (by decide)⟩) (h1 ⟨_, rfl⟩ _ _ (grown_refl _ none) rfl (nobl rfl) (FreshB.none rfl))⟩
        · cases (show some _ = some o from ho)
          refine .inl ?_
          exact ⟨wanted_of (j := 36) rfl rfl (hitem 36 (by decide) ⟨hpre 36 rfl, hout _ (by decide)⟩), wp_bin rfl (hitem 39 (by decide) ⟨hpre 39 rfl, hout _ (by decide)⟩) (rfl) (guard_int _ _ _ _ _) (eql_i64 _ _ _ (rfl)) (h1 ⟨_, rfl⟩ _ _ (grown_refl _ none) rfl (nobl rfl) (FreshB.none rfl))⟩
        · cases (show some _ = some o from ho)
          refine .inl ?_
          have hc := hitem 36 (by decide) ⟨hpre 36 rfl, hout _ (by decide)⟩
          have hx := hitem 40 (by decide) ⟨hpre 40 rfl, hout _ (by decide)⟩
          exact ⟨rfl, wp_pick rfl hc (h1 ⟨_, rfl⟩ _ _ (grown_refl _ none) hx (by rw [show a.eval (.tmp 89) = .bool true from hx]; exact nobl rfl) (by rw [show a.eval (.tmp 89) = .bool true from hx]; exact FreshB.none rfl))⟩
        · cases (show some _ = some o from ho)
          refine .inl ?_
          have hx := hitem 41 (by decide) ⟨hpre 41 rfl, hout _ (by decide)⟩
          exact ⟨rfl, wp_move rfl (h1 ⟨_, rfl⟩ _ _ (grown_refl _ none) hx (by rw [show a.eval (.tmp 90) = .bool true from hx]; exact nobl rfl) (by rw [show a.eval (.tmp 90) = .bool true from hx]; exact FreshB.none rfl))⟩
        · cases (show some _ = some o from ho)
          refine .inl ?_
          exact ⟨wanted_of (j := 42) rfl rfl (hitem 42 (by decide) ⟨hpre 42 rfl, hout _ (by decide)⟩), wp_field rfl (houter 17 rfl) (field_S0p _) (h1 ⟨_, rfl⟩ _ _ (grown_refl _ none) rfl (nobl rfl) (FreshB.none rfl))⟩
        · cases (show some _ = some o from ho)
          refine .inl ?_
          exact ⟨wanted_of (j := 42) rfl rfl (hitem 42 (by decide) ⟨hpre 42 rfl, hout _ (by decide)⟩), wp_loadC rfl (hitem 43 (by decide) ⟨hpre 43 rfl, hout _ (by decide)⟩) (load_cell (cell_at0 (keep_of hZ7 hg)) Tryd.underlying3 rfl) (h1 ⟨_, rfl⟩ _ _ (grown_refl _ none) rfl (nobl rfl) (FreshB.none rfl))⟩
        · cases (show some _ = some o from ho)
          refine .inl ?_
          exact ⟨wanted_of (j := 42) rfl rfl (hitem 42 (by decide) ⟨hpre 42 rfl, hout _ (by decide)⟩), wp_bin rfl (hitem 44 (by decide) ⟨hpre 44 rfl, hout _ (by decide)⟩) (rfl) (guard_int _ _ _ _ _) (eql_i64 _ _ _ (rfl)) (h1 ⟨_, rfl⟩ _ _ (grown_refl _ none) rfl (nobl rfl) (FreshB.none rfl))⟩
        · cases (show some _ = some o from ho)
          refine .inl ?_
          have hc := hitem 42 (by decide) ⟨hpre 42 rfl, hout _ (by decide)⟩
          have hx := hitem 45 (by decide) ⟨hpre 45 rfl, hout _ (by decide)⟩
          exact ⟨rfl, wp_pick rfl hc (h1 ⟨_, rfl⟩ _ _ (grown_refl _ none) hx (by rw [show a.eval (.tmp 94) = .bool true from hx]; exact nobl rfl) (by rw [show a.eval (.tmp 94) = .bool true from hx]; exact FreshB.none rfl))⟩
        · cases (show some _ = some o from ho)
          refine .inl ?_
          have hx := hitem 46 (by decide) ⟨hpre 46 rfl, hout _ (by decide)⟩
          exact ⟨rfl, wp_move rfl (h1 ⟨_, rfl⟩ _ _ (grown_refl _ none) hx (by rw [show a.eval (.tmp 95) = .bool true from hx]; exact nobl rfl) (by rw [show a.eval (.tmp 95) = .bool true from hx]; exact FreshB.none rfl))⟩
        · cases (show some _ = some o from ho)
          refine .inl ?_
          exact ⟨wanted_of (j := 47) rfl rfl (hitem 47 (by decide) ⟨hpre 47 rfl, hout _ (by decide)⟩), wp_load_row 23 _ rfl _ (houter _ rfl) _ (I.map bv).toArray (0, 0) _ (keep_of hI7 hg) Tryd.underlying23 rfl (hashV_size _ (hIl.out)) (h1 ⟨_, rfl⟩ _ _ (grown_refl _ none) rfl (nobl (blocks_bytes _)) (FreshB.none (blocks_bytes _)))⟩
        · cases (show some _ = some o from ho)
          refine .inl ?_
          exact ⟨wanted_of (j := 47) rfl rfl (hitem 47 (by decide) ⟨hpre 47 rfl, hout _ (by decide)⟩), wp_move rfl (h1 ⟨_, rfl⟩ _ _ (grown_refl _ none) (houter _ rfl) (by rw [houter _ rfl]; exact nobl rfl) (by rw [houter _ rfl]; exact FreshB.none rfl))⟩
        · cases (show some _ = some o from ho)
          refine .inl ?_
          exact ⟨wanted_of (j := 47) rfl rfl (hitem 47 (by decide) ⟨hpre 47 rfl, hout _ (by decide)⟩), wp_load_row 28 _ rfl _ (houter _ rfl) _ #[.int .i64 0, .slice none 0 0, .slice none 0 0, .slice none 0 0] (0, 0) _ (keep_of hZ7 hg) Tryd.underlying28 rfl (size_sig) (h1 ⟨_, rfl⟩ _ _ (grown_refl _ none) rfl (nobl rfl) (FreshB.none rfl))⟩
        · cases (show some _ = some o from ho)
          refine .inl ?_
          have x97 : a.eval (.tmp 97) = (.agg (I.map bv).toArray) := hitem 48 (by decide) ⟨hpre 48 rfl, hout _ (by decide)⟩
          have x98 : a.eval (.tmp 98) = .slice A7 N7 c7 := hitem 49 (by decide) ⟨hpre 49 rfl, hout _ (by decide)⟩
          have x99 : a.eval (.tmp 99) = (.agg #[.int .i64 0, .slice none 0 0, .slice none 0 0, .slice none 0 0]) := hitem 50 (by decide) ⟨hpre 50 rfl, hout _ (by decide)⟩
          refine ⟨wanted_of (j := 47) rfl rfl (hitem 47 (by decide) ⟨hpre 47 rfl, hout _ (by decide)⟩), wp_call rfl Tryd.func10 (by kernel_rfl) (by kernel_rfl) (args := #[(.agg (I.map bv).toArray), .int .i64 17, .slice A7 N7 c7, .agg #[.int .i64 0, .slice none 0 0, .slice none 0 0, .slice none 0 0]]) (by simp [eval_const, x97, x98, x99]) ((hv17 w).mono ?_)⟩
          rintro e w' ⟨rfl, hg'⟩
          exact ⟨_, rfl, h1 ⟨_, rfl⟩ _ _ hg' rfl (nobl rfl) (FreshB.none rfl)⟩
        · cases (show some _ = some o from ho)
          refine .inl ?_
          exact ⟨wanted_of (j := 47) rfl rfl (hitem 47 (by decide) ⟨hpre 47 rfl, hout _ (by decide)⟩), wp_not rfl (hitem 51 (by decide) ⟨hpre 51 rfl, hout _ (by decide)⟩) (h1 ⟨_, rfl⟩ _ _ (grown_refl _ none) rfl (nobl rfl) (FreshB.none rfl))⟩
        · cases (show some _ = some o from ho)
          refine .inl ?_
          have hc := hitem 47 (by decide) ⟨hpre 47 rfl, hout _ (by decide)⟩
          have hx := hitem 52 (by decide) ⟨hpre 52 rfl, hout _ (by decide)⟩
          exact ⟨rfl, wp_pick rfl hc (h1 ⟨_, rfl⟩ _ _ (grown_refl _ none) hx (by rw [show a.eval (.tmp 101) = .bool true from hx]; exact nobl rfl) (by rw [show a.eval (.tmp 101) = .bool true from hx]; exact FreshB.none rfl))⟩
        · cases (show some _ = some o from ho)
          refine .inl ?_
          have hx := hitem 53 (by decide) ⟨hpre 53 rfl, hout _ (by decide)⟩
          exact ⟨rfl, wp_move rfl (h1 ⟨_, rfl⟩ _ _ (grown_refl _ none) hx (by rw [show a.eval (.tmp 102) = .bool true from hx]; exact nobl rfl) (by rw [show a.eval (.tmp 102) = .bool true from hx]; exact FreshB.none rfl))⟩
        · cases (show some _ = some o from ho)
          refine .inl ?_
          exact ⟨wanted_of (j := 54) rfl rfl (hitem 54 (by decide) ⟨hpre 54 rfl, hout _ (by decide)⟩), wp_load_row 23 _ rfl _ (houter _ rfl) _ (I.map bv).toArray (0, 0) _ (keep_of hI7 hg) Tryd.underlying23 rfl (hashV_size _ (hIl.out)) (h1 ⟨_, rfl⟩ _ _ (grown_refl _ none) rfl (nobl (blocks_bytes _)) (FreshB.none (blocks_bytes _)))⟩
        · cases (show some _ = some o from ho)
          refine .inl ?_
          exact ⟨wanted_of (j := 54) rfl rfl (hitem 54 (by decide) ⟨hpre 54 rfl, hout _ (by decide)⟩), wp_move rfl (h1 ⟨_, rfl⟩ _ _ (grown_refl _ none) (houter _ rfl) (by rw [houter _ rfl]; exact nobl rfl) (by rw [houter _ rfl]; exact FreshB.none rfl))⟩
        · cases (show some _ = some o from ho)
          refine .inl ?_
          exact ⟨wanted_of (j := 54) rfl rfl (hitem 54 (by decide) ⟨hpre 54 rfl, hout _ (by decide)⟩), wp_load_row 28 _ rfl _ (houter _ rfl) _ #[.int .i64 0, .slice none 0 0, .slice none 0 0, .slice none 0 0] (0, 0) _ (keep_of hZ7 hg) Tryd.underlying28 rfl (size_sig) (h1 ⟨_, rfl⟩ _ _ (grown_refl _ none) rfl (nobl rfl) (FreshB.none rfl))⟩
        · cases (show some _ = some o from ho)
          refine .inl ?_
          have x104 : a.eval (.tmp 104) = (.agg (I.map bv).toArray) := hitem 55 (by decide) ⟨hpre 55 rfl, hout _ (by decide)⟩
          have x105 : a.eval (.tmp 105) = .slice A7 N7 c7 := hitem 56 (by decide) ⟨hpre 56 rfl, hout _ (by decide)⟩
          have x106 : a.eval (.tmp 106) = (.agg #[.int .i64 0, .slice none 0 0, .slice none 0 0, .slice none 0 0]) := hitem 57 (by decide) ⟨hpre 57 rfl, hout _ (by decide)⟩
          refine ⟨wanted_of (j := 54) rfl rfl (hitem 54 (by decide) ⟨hpre 54 rfl, hout _ (by decide)⟩), wp_call rfl Tryd.func10 (by kernel_rfl) (by kernel_rfl) (args := #[(.agg (I.map bv).toArray), .int .i64 0, .slice A7 N7 c7, .agg #[.int .i64 0, .slice none 0 0, .slice none 0 0, .slice none 0 0]]) (by simp [eval_const, x104, x105, x106]) ((hv0 w).mono ?_)⟩
          rintro e w' ⟨rfl, hg'⟩
          exact ⟨_, rfl, h1 ⟨_, rfl⟩ _ _ hg' rfl (nobl rfl) (FreshB.none rfl)⟩
        · cases (show some _ = some o from ho)
          refine .inl ?_
          exact ⟨wanted_of (j := 54) rfl rfl (hitem 54 (by decide) ⟨hpre 54 rfl, hout _ (by decide)⟩), wp_not rfl (hitem 58 (by decide) ⟨hpre 58 rfl, hout _ (by decide)⟩) (h1 ⟨_, rfl⟩ _ _ (grown_refl _ none) rfl (nobl rfl) (FreshB.none rfl))⟩
        · cases (show some _ = some o from ho)
          refine .inl ?_
          have hc := hitem 54 (by decide) ⟨hpre 54 rfl, hout _ (by decide)⟩
          have hx := hitem 59 (by decide) ⟨hpre 59 rfl, hout _ (by decide)⟩
          exact ⟨rfl, wp_pick rfl hc (h1 ⟨_, rfl⟩ _ _ (grown_refl _ none) hx (by rw [show a.eval (.tmp 108) = .bool true from hx]; exact nobl rfl) (by rw [show a.eval (.tmp 108) = .bool true from hx]; exact FreshB.none rfl))⟩
        · cases (show some _ = some o from ho)
          refine .inl ?_
          have hx := hitem 60 (by decide) ⟨hpre 60 rfl, hout _ (by decide)⟩
          exact ⟨rfl, wp_move rfl (h1 ⟨_, rfl⟩ _ _ (grown_refl _ none) hx (by rw [show a.eval (.tmp 109) = .bool true from hx]; exact nobl rfl) (by rw [show a.eval (.tmp 109) = .bool true from hx]; exact FreshB.none rfl))⟩
        · cases (show some _ = some o from ho)
          refine .inl ?_
          refine ⟨wanted_of (j := 61) rfl rfl (hitem 61 (by decide) ⟨hpre 61 rfl, hout _ (by decide)⟩), wp_call rfl Tryd.func3 (by kernel_rfl) (by kernel_rfl) (args := #[]) (by simp) ((RingRuns_any w (hk.kept hg)).mono ?_)⟩
          rintro e w' ⟨rfl, hg'⟩
          exact ⟨_, rfl, h1 ⟨_, rfl⟩ _ _ hg' rfl (nobl rfl) (FreshB.none rfl)⟩
        · cases (show some _ = some o from ho)
          refine .inl ?_
          have hc := hitem 61 (by decide) ⟨hpre 61 rfl, hout _ (by decide)⟩
          have hx := hitem 62 (by decide) ⟨hpre 62 rfl, hout _ (by decide)⟩
          exact ⟨rfl, wp_pick rfl hc (h1 ⟨_, rfl⟩ _ _ (grown_refl _ none) hx (by rw [show a.eval (.tmp 111) = .bool true from hx]; exact nobl rfl) (by rw [show a.eval (.tmp 111) = .bool true from hx]; exact FreshB.none rfl))⟩
        · cases (show some _ = some o from ho)
          refine .inl ?_
          have hx := hitem 63 (by decide) ⟨hpre 63 rfl, hout _ (by decide)⟩
          exact ⟨rfl, wp_assign rfl (h1 ⟨_, rfl⟩ _ _ (grown_refl _ none) hx (by rw [show a.eval (.tmp 112) = .bool true from hx]; exact nobl rfl) (by rw [show a.eval (.tmp 112) = .bool true from hx]; exact FreshB.none rfl))⟩
      · intro a wT hgT hend hap ha
        obtain ⟨f, hf⟩ : ∃ f : Nat → Value, f = fun t => a.tmps.getD t undef := ⟨_, rfl⟩
        have s8 : f 8 = .bool true := by rw [hf]; exact (hend 64 (by decide) (by decide)).1
        rw [← hf] at ha
        clear hend hap
        clear hf
        subst ha
        simp only [fill, htbS, Nat.reduceAdd, Nat.reduceBEq, Bool.or_false, Bool.or_true, cond_true, cond_false, s8]
        clear s8
        change wpList _ _ _ [] _ _
        go_wp2_with fail
        go_ret
        exact ⟨rfl, grown_same hg7 hgT⟩
    · have hvC := fun w' => Verify_no I ((j : Int) + 1) ((i : Int) + 1) (.inr (.inr (neI hij))) A7 N7 c7 (.slice (some ⟨g1a, 0, none⟩) 32 c1a) (.slice (some ⟨g2a, 0, none⟩) 32 c2a) (.slice (some ⟨g3a, 0, none⟩) 4 c3a) w'
      refine wp_region_gc (al := htcAl) 65 (N := 113) (S := htcS) (die := htcDie) (own := htcOwn) (F := htcF i j N7 c7 b17 g1a c1a g2a c2a g3a c3a g1b c1b g2b c2b g3b c3b x0 I X Y A7) (by kernel_rfl) (Nat.le_of_ble_eq_true (by kernel_rfl)) (fun h => absurd (show 65 < 65 from h) (Nat.lt_irrefl _)) (fun h => absurd (show 65 < 65 from h) (Nat.lt_irrefl _)) (by kernel_rfl) (by kernel_rfl) (Nat.le_of_ble_eq_true (by kernel_rfl)) (htcF_lasts i j N7 c7 b17 g1a c1a g2a c2a g3a c3a g1b c1b g2b c2b g3b c3b x0 I X Y A7) ?_ ?_
      · intro i o L' a w K hi ho hg hLi hout hpre houter hitem hap' h1 h2 h3 h4
        have hcases : i = 0 ∨ i = 1 ∨ i = 2 ∨ i = 3 ∨ i = 4 ∨ i = 5 ∨ i = 6 ∨ i = 7 ∨ i = 8 ∨ i = 9 ∨ i = 10 ∨ i = 11 ∨ i = 12 ∨ i = 13 ∨ i = 14 ∨ i = 15 ∨ i = 16 ∨ i = 17 ∨ i = 18 ∨ i = 19 ∨ i = 20 ∨ i = 21 ∨ i = 22 ∨ i = 23 ∨ i = 24 ∨ i = 25 ∨ i = 26 ∨ i = 27 ∨ i = 28 ∨ i = 29 ∨ i = 30 ∨ i = 31 ∨ i = 32 ∨ i = 33 ∨ i = 34 ∨ i = 35 ∨ i = 36 ∨ i = 37 ∨ i = 38 ∨ i = 39 ∨ i = 40 ∨ i = 41 ∨ i = 42 ∨ i = 43 ∨ i = 44 ∨ i = 45 ∨ i = 46 ∨ i = 47 ∨ i = 48 ∨ i = 49 ∨ i = 50 ∨ i = 51 ∨ i = 52 ∨ i = 53 ∨ i = 54 ∨ i = 55 ∨ i = 56 ∨ i = 57 ∨ i = 58 ∨ i = 59 ∨ i = 60 ∨ i = 61 ∨ i = 62 ∨ i = 63 ∨ i = 64 := by omega
        rcases hcases with rfl | rfl | rfl | rfl | rfl | rfl | rfl | rfl | rfl | rfl | rfl | rfl | rfl | rfl | rfl | rfl | rfl | rfl | rfl | rfl | rfl | rfl | rfl | rfl | rfl | rfl | rfl | rfl | rfl | rfl | rfl | rfl | rfl | rfl | rfl | rfl | rfl | rfl | rfl | rfl | rfl | rfl | rfl | rfl | rfl | rfl | rfl | rfl | rfl | rfl | rfl | rfl | rfl | rfl | rfl | rfl | rfl | rfl | rfl | rfl | rfl | rfl | rfl | rfl | rfl
        · cases (show some _ = some o from ho)
          refine .inl ?_
          exact ⟨rfl, wp_load_row 23 _ rfl _ (houter _ rfl) _ (I.map bv).toArray (0, 0) _ (keep_of hI7 hg) Tryd.underlying23 rfl (hashV_size _ (hIl.out)) (h1 ⟨_, rfl⟩ _ _ (grown_refl _ none) rfl (nobl (blocks_bytes _)) (FreshB.none (blocks_bytes _)))⟩
        · cases (show some _ = some o from ho)
          refine .inl ?_
          exact ⟨rfl, wp_move rfl (h1 ⟨_, rfl⟩ _ _ (grown_refl _ none) (houter _ rfl) (by rw [houter _ rfl]; exact nobl rfl) (by rw [houter _ rfl]; exact FreshB.none rfl))⟩
        · cases (show some _ = some o from ho)
          refine .inl ?_
          exact ⟨rfl, wp_move rfl (h1 ⟨_, rfl⟩ _ _ (grown_refl _ none) (houter _ rfl) (by rw [houter _ rfl]; exact nobl rfl) (by rw [houter _ rfl]; exact FreshB.none rfl))⟩
        · cases (show some _ = some o from ho)
          refine .inl ?_
          exact ⟨rfl, wp_load_row 28 _ rfl _ (houter _ rfl) _ #[.int .i64 ((i : Int) + 1), .slice (some ⟨g1a, 0, none⟩) 32 c1a, .slice (some ⟨g2a, 0, none⟩) 32 c2a, .slice (some ⟨g3a, 0, none⟩) 4 c3a] (0, 0) _ (keep_of hA7 hg) Tryd.underlying28 rfl (size_sig) (h1 ⟨_, rfl⟩ _ _ (grown_refl _ none) rfl (nobl rfl) (FreshB.none rfl))⟩
        · cases (show some _ = some o from ho)
          refine .inl ?_
          have x49 : a.eval (.tmp 49) = (.agg (I.map bv).toArray) := hitem 0 (by decide) ⟨hpre 0 rfl, hout _ (by decide)⟩
          have x50 : a.eval (.tmp 50) = .int .i64 ((i : Int) + 1) := hitem 1 (by decide) ⟨hpre 1 rfl, hout _ (by decide)⟩
          have x51 : a.eval (.tmp 51) = .slice A7 N7 c7 := hitem 2 (by decide) ⟨hpre 2 rfl, hout _ (by decide)⟩
          have x52 : a.eval (.tmp 52) = (.agg #[.int .i64 ((i : Int) + 1), .slice (some ⟨g1a, 0, none⟩) 32 c1a, .slice (some ⟨g2a, 0, none⟩) 32 c2a, .slice (some ⟨g3a, 0, none⟩) 4 c3a]) := hitem 3 (by decide) ⟨hpre 3 rfl, hout _ (by decide)⟩
          refine ⟨rfl, wp_call rfl Tryd.func10 (by kernel_rfl) (by kernel_rfl) (args := #[(.agg (I.map bv).toArray), .int .i64 ((i : Int) + 1), .slice A7 N7 c7, .agg #[.int .i64 ((i : Int) + 1), .slice (some ⟨g1a, 0, none⟩) 32 c1a, .slice (some ⟨g2a, 0, none⟩) 32 c2a, .slice (some ⟨g3a, 0, none⟩) 4 c3a]]) (by simp [x49, x50, x51, x52]) ((hvA w hg).mono ?_)⟩
          rintro e w' ⟨rfl, hg'⟩
          exact ⟨_, rfl, h1 ⟨_, rfl⟩ _ _ hg' rfl (nobl rfl) (FreshB.none rfl)⟩
        · cases (show some _ = some o from ho)
          refine .inl ?_
          have hx := hitem 4 (by decide) ⟨hpre 4 rfl, hout _ (by decide)⟩
          exact ⟨rfl, wp_move rfl (h1 ⟨_, rfl⟩ _ _ (grown_refl _ none) hx (by rw [show a.eval (.tmp 53) = .bool true from hx]; exact nobl rfl) (by rw [show a.eval (.tmp 53) = .bool true from hx]; exact FreshB.none rfl))⟩
        · cases (show some _ = some o from ho)
          refine .inl ?_
          exact ⟨wanted_of (j := 5) rfl rfl (hitem 5 (by decide) ⟨hpre 5 rfl, hout _ (by decide)⟩), wp_load_row 23 _ rfl _ (houter _ rfl) _ (I.map bv).toArray (0, 0) _ (keep_of hI7 hg) Tryd.underlying23 rfl (hashV_size _ (hIl.out)) (h1 ⟨_, rfl⟩ _ _ (grown_refl _ none) rfl (nobl (blocks_bytes _)) (FreshB.none (blocks_bytes _)))⟩
        · cases (show some _ = some o from ho)
          refine .inl ?_
          exact ⟨wanted_of (j := 5) rfl rfl (hitem 5 (by decide) ⟨hpre 5 rfl, hout _ (by decide)⟩), wp_move rfl (h1 ⟨_, rfl⟩ _ _ (grown_refl _ none) (houter _ rfl) (by rw [houter _ rfl]; exact nobl rfl) (by rw [houter _ rfl]; exact FreshB.none rfl))⟩
        · cases (show some _ = some o from ho)
          refine .inl ?_
          exact ⟨wanted_of (j := 5) rfl rfl (hitem 5 (by decide) ⟨hpre 5 rfl, hout _ (by decide)⟩), wp_move rfl (h1 ⟨_, rfl⟩ _ _ (grown_refl _ none) (houter _ rfl) (by rw [houter _ rfl]; exact nobl rfl) (by rw [houter _ rfl]; exact FreshB.none rfl))⟩
        · cases (show some _ = some o from ho)
          refine .inl ?_
          exact ⟨wanted_of (j := 5) rfl rfl (hitem 5 (by decide) ⟨hpre 5 rfl, hout _ (by decide)⟩), wp_load_row 28 _ rfl _ (houter _ rfl) _ #[.int .i64 ((j : Int) + 1), .slice (some ⟨g1b, 0, none⟩) 32 c1b, .slice (some ⟨g2b, 0, none⟩) 32 c2b, .slice (some ⟨g3b, 0, none⟩) 4 c3b] (0, 0) _ (keep_of hB7 hg) Tryd.underlying28 rfl (size_sig) (h1 ⟨_, rfl⟩ _ _ (grown_refl _ none) rfl (nobl rfl) (FreshB.none rfl))⟩
        · cases (show some _ = some o from ho)
          refine .inl ?_
          have x55 : a.eval (.tmp 55) = (.agg (I.map bv).toArray) := hitem 6 (by decide) ⟨hpre 6 rfl, hout _ (by decide)⟩
          have x56 : a.eval (.tmp 56) = .int .i64 ((j : Int) + 1) := hitem 7 (by decide) ⟨hpre 7 rfl, hout _ (by decide)⟩
          have x57 : a.eval (.tmp 57) = .slice A7 N7 c7 := hitem 8 (by decide) ⟨hpre 8 rfl, hout _ (by decide)⟩
          have x58 : a.eval (.tmp 58) = (.agg #[.int .i64 ((j : Int) + 1), .slice (some ⟨g1b, 0, none⟩) 32 c1b, .slice (some ⟨g2b, 0, none⟩) 32 c2b, .slice (some ⟨g3b, 0, none⟩) 4 c3b]) := hitem 9 (by decide) ⟨hpre 9 rfl, hout _ (by decide)⟩
          refine ⟨wanted_of (j := 5) rfl rfl (hitem 5 (by decide) ⟨hpre 5 rfl, hout _ (by decide)⟩), wp_call rfl Tryd.func10 (by kernel_rfl) (by kernel_rfl) (args := #[(.agg (I.map bv).toArray), .int .i64 ((j : Int) + 1), .slice A7 N7 c7, .agg #[.int .i64 ((j : Int) + 1), .slice (some ⟨g1b, 0, none⟩) 32 c1b, .slice (some ⟨g2b, 0, none⟩) 32 c2b, .slice (some ⟨g3b, 0, none⟩) 4 c3b]]) (by simp [x55, x56, x57, x58]) ((hvB w hg).mono ?_)⟩
          rintro e w' ⟨rfl, hg'⟩
          exact ⟨_, rfl, h1 ⟨_, rfl⟩ _ _ hg' rfl (nobl rfl) (FreshB.none rfl)⟩
        · cases (show some _ = some o from ho)
          refine .inl ?_
          have hc := hitem 5 (by decide) ⟨hpre 5 rfl, hout _ (by decide)⟩
          have hx := hitem 10 (by decide) ⟨hpre 10 rfl, hout _ (by decide)⟩
          exact ⟨rfl, wp_pick rfl hc (h1 ⟨_, rfl⟩ _ _ (grown_refl _ none) hx (by rw [show a.eval (.tmp 59) = .bool true from hx]; exact nobl rfl) (by rw [show a.eval (.tmp 59) = .bool true from hx]; exact FreshB.none rfl))⟩
        · cases (show some _ = some o from ho)
          refine .inl ?_
          have hx := hitem 11 (by decide) ⟨hpre 11 rfl, hout _ (by decide)⟩
          exact ⟨rfl, wp_move rfl (h1 ⟨_, rfl⟩ _ _ (grown_refl _ none) hx (by rw [show a.eval (.tmp 60) = .bool true from hx]; exact nobl rfl) (by rw [show a.eval (.tmp 60) = .bool true from hx]; exact FreshB.none rfl))⟩
        · cases (show some _ = some o from ho)
          refine .inl ?_
          exact ⟨wanted_of (j := 12) rfl rfl (hitem 12 (by decide) ⟨hpre 12 rfl, hout _ (by decide)⟩), wp_move rfl (h1 ⟨_, rfl⟩ _ _ (grown_refl _ none) (houter _ rfl) (by rw [houter _ rfl]; exact nobl rfl) (by rw [houter _ rfl]; exact FreshB.none rfl))⟩
        · cases (show some _ = some o from ho)
          refine .inl ?_
          exact ⟨wanted_of (j := 12) rfl rfl (hitem 12 (by decide) ⟨hpre 12 rfl, hout _ (by decide)⟩), wp_move rfl (h1 ⟨_, rfl⟩ _ _ (grown_refl _ none) (houter _ rfl) (by rw [houter _ rfl]; exact nobl rfl) (by rw [houter _ rfl]; exact FreshB.none rfl))⟩
        · cases (show some _ = some o from ho)
          refine .inl ?_
          exact ⟨wanted_of (j := 12) rfl rfl (hitem 12 (by decide) ⟨hpre 12 rfl, hout _ (by decide)⟩), wp_bin rfl (hitem 13 (by decide) ⟨hpre 13 rfl, hout _ (by decide)⟩) (hitem 14 (by decide) ⟨hpre 14 rfl, hout _ (by decide)⟩) (guard_int _ _ _ _ _) (eql_no _ _ _ (neI hij)) (h1 ⟨_, rfl⟩ _ _ (grown_refl _ none) rfl (nobl rfl) (FreshB.none rfl))⟩
        · cases (show some _ = some o from ho)
          refine .inl ?_
          have hx := hitem 15 (by decide) ⟨hpre 15 rfl, hout _ (by decide)⟩
          exact ⟨wanted_of (j := 12) rfl rfl (hitem 12 (by decide) ⟨hpre 12 rfl, hout _ (by decide)⟩), wp_move rfl (h1 ⟨_, rfl⟩ _ _ (grown_refl _ none) hx (by rw [show a.eval (.tmp 64) = .bool false from hx]; exact nobl rfl) (by rw [show a.eval (.tmp 64) = .bool false from hx]; exact FreshB.none rfl))⟩
        · cases (show some _ = some o from ho)
          refine .inl ?_
          exact ⟨wanted_not (j := 16) rfl rfl (hitem 16 (by decide) ⟨hpre 16 rfl, hout _ (by decide)⟩), wp_load_row 23 _ rfl _ (houter _ rfl) _ (I.map bv).toArray (0, 0) _ (keep_of hI7 hg) Tryd.underlying23 rfl (hashV_size _ (hIl.out)) (h1 ⟨_, rfl⟩ _ _ (grown_refl _ none) rfl (nobl (blocks_bytes _)) (FreshB.none (blocks_bytes _)))⟩
        · cases (show some _ = some o from ho)
          refine .inl ?_
          exact ⟨wanted_not (j := 16) rfl rfl (hitem 16 (by decide) ⟨hpre 16 rfl, hout _ (by decide)⟩), wp_move rfl (h1 ⟨_, rfl⟩ _ _ (grown_refl _ none) (houter _ rfl) (by rw [houter _ rfl]; exact nobl rfl) (by rw [houter _ rfl]; exact FreshB.none rfl))⟩
        · cases (show some _ = some o from ho)
          refine .inl ?_
          exact ⟨wanted_not (j := 16) rfl rfl (hitem 16 (by decide) ⟨hpre 16 rfl, hout _ (by decide)⟩), wp_move rfl (h1 ⟨_, rfl⟩ _ _ (grown_refl _ none) (houter _ rfl) (by rw [houter _ rfl]; exact nobl rfl) (by rw [houter _ rfl]; exact FreshB.none rfl))⟩
        · cases (show some _ = some o from ho)
          refine .inl ?_
          exact ⟨wanted_not (j := 16) rfl rfl (hitem 16 (by decide) ⟨hpre 16 rfl, hout _ (by decide)⟩), wp_load_row 28 _ rfl _ (houter _ rfl) _ #[.int .i64 ((i : Int) + 1), .slice (some ⟨g1a, 0, none⟩) 32 c1a, .slice (some ⟨g2a, 0, none⟩) 32 c2a, .slice (some ⟨g3a, 0, none⟩) 4 c3a] (0, 0) _ (keep_of hA7 hg) Tryd.underlying28 rfl (size_sig) (h1 ⟨_, rfl⟩ _ _ (grown_refl _ none) rfl (nobl rfl) (FreshB.none rfl))⟩
        · cases (show some _ = some o from ho)
          refine .inl ?_
          have x66 : a.eval (.tmp 66) = (.agg (I.map bv).toArray) := hitem 17 (by decide) ⟨hpre 17 rfl, hout _ (by decide)⟩
          have x67 : a.eval (.tmp 67) = .int .i64 ((j : Int) + 1) := hitem 18 (by decide) ⟨hpre 18 rfl, hout _ (by decide)⟩
          have x68 : a.eval (.tmp 68) = .slice A7 N7 c7 := hitem 19 (by decide) ⟨hpre 19 rfl, hout _ (by decide)⟩
          have x69 : a.eval (.tmp 69) = (.agg #[.int .i64 ((i : Int) + 1), .slice (some ⟨g1a, 0, none⟩) 32 c1a, .slice (some ⟨g2a, 0, none⟩) 32 c2a, .slice (some ⟨g3a, 0, none⟩) 4 c3a]) := hitem 20 (by decide) ⟨hpre 20 rfl, hout _ (by decide)⟩
          refine ⟨wanted_not (j := 16) rfl rfl (hitem 16 (by decide) ⟨hpre 16 rfl, hout _ (by decide)⟩), wp_call rfl Tryd.func10 (by kernel_rfl) (by kernel_rfl) (args := #[(.agg (I.map bv).toArray), .int .i64 ((j : Int) + 1), .slice A7 N7 c7, .agg #[.int .i64 ((i : Int) + 1), .slice (some ⟨g1a, 0, none⟩) 32 c1a, .slice (some ⟨g2a, 0, none⟩) 32 c2a, .slice (some ⟨g3a, 0, none⟩) 4 c3a]]) (by simp [x66, x67, x68, x69]) ((hvC w).mono ?_)⟩
          rintro e w' ⟨rfl, hg'⟩
          exact ⟨_, rfl, h1 ⟨_, rfl⟩ _ _ hg' rfl (nobl rfl) (FreshB.none rfl)⟩
        · cases (show some _ = some o from ho)
          refine .inl ?_
          exact ⟨wanted_not (j := 16) rfl rfl (hitem 16 (by decide) ⟨hpre 16 rfl, hout _ (by decide)⟩), wp_not rfl (hitem 21 (by decide) ⟨hpre 21 rfl, hout _ (by decide)⟩) (h1 ⟨_, rfl⟩ _ _ (grown_refl _ none) rfl (nobl rfl) (FreshB.none rfl))⟩
        · cases (show some _ = some o from ho)
          refine .inl ?_
          have hc := hitem 16 (by decide) ⟨hpre 16 rfl, hout _ (by decide)⟩
          have hx := hitem 22 (by decide) ⟨hpre 22 rfl, hout _ (by decide)⟩
          exact ⟨wanted_of (j := 12) rfl rfl (hitem 12 (by decide) ⟨hpre 12 rfl, hout _ (by decide)⟩), wp_pickN rfl hc (h1 ⟨_, rfl⟩ _ _ (grown_refl _ none) hx (by rw [show a.eval (.tmp 71) = .bool true from hx]; exact nobl rfl) (by rw [show a.eval (.tmp 71) = .bool true from hx]; exact FreshB.none rfl))⟩
        · cases (show some _ = some o from ho)
          refine .inl ?_
          have hc := hitem 12 (by decide) ⟨hpre 12 rfl, hout _ (by decide)⟩
          have hx := hitem 23 (by decide) ⟨hpre 23 rfl, hout _ (by decide)⟩
          exact ⟨rfl, wp_pick rfl hc (h1 ⟨_, rfl⟩ _ _ (grown_refl _ none) hx (by rw [show a.eval (.tmp 72) = .bool true from hx]; exact nobl rfl) (by rw [show a.eval (.tmp 72) = .bool true from hx]; exact FreshB.none rfl))⟩
        · cases (show some _ = some o from ho)
          refine .inl ?_
          have hx := hitem 24 (by decide) ⟨hpre 24 rfl, hout _ (by decide)⟩
          exact ⟨rfl, wp_move rfl (h1 ⟨_, rfl⟩ _ _ (grown_refl _ none) hx (by rw [show a.eval (.tmp 73) = .bool true from hx]; exact nobl rfl) (by rw [show a.eval (.tmp 73) = .bool true from hx]; exact FreshB.none rfl))⟩
        · cases (show some _ = some o from ho)
          refine .inl ?_
          exact ⟨wanted_of (j := 25) rfl rfl (hitem 25 (by decide) ⟨hpre 25 rfl, hout _ (by decide)⟩), wp_move rfl (h1 ⟨_, rfl⟩ _ _ (grown_refl _ none) (houter _ rfl) (by rw [houter _ rfl]; exact nobl rfl) (by rw [houter _ rfl]; exact FreshB.none rfl))⟩
        · cases (show some _ = some o from ho)
          refine .inl ?_
          have hc := hitem 25 (by decide) ⟨hpre 25 rfl, hout _ (by decide)⟩
          have hx := hitem 26 (by decide) ⟨hpre 26 rfl, hout _ (by decide)⟩
          exact ⟨rfl, wp_pick rfl hc (h1 ⟨_, rfl⟩ _ _ (grown_refl _ none) hx (by rw [show a.eval (.tmp 75) = .bool true from hx]; exact nobl rfl) (by rw [show a.eval (.tmp 75) = .bool true from hx]; exact FreshB.none rfl))⟩
        · cases (show some _ = some o from ho)
          refine .inl ?_
          have hx := hitem 27 (by decide) ⟨hpre 27 rfl, hout _ (by decide)⟩
          exact ⟨rfl, wp_move rfl (h1 ⟨_, rfl⟩ _ _ (grown_refl _ none) hx (by rw [show a.eval (.tmp 76) = .bool true from hx]; exact nobl rfl) (by rw [show a.eval (.tmp 76) = .bool true from hx]; exact FreshB.none rfl))⟩
        · cases (show some _ = some o from ho)
          refine .inl ?_
          exact ⟨wanted_of (j := 28) rfl rfl (hitem 28 (by decide) ⟨hpre 28 rfl, hout _ (by decide)⟩), wp_load_row 23 _ rfl _ (houter _ rfl) _ (X.map bv).toArray (0, 0) _ (keep_of hX7 hg) Tryd.underlying23 rfl (hashV_size _ (hXl.out)) (h1 ⟨_, rfl⟩ _ _ (grown_refl _ none) rfl (nobl (blocks_bytes _)) (FreshB.none (blocks_bytes _)))⟩
        · cases (show some _ = some o from ho)
          refine .inl ?_
          exact ⟨wanted_of (j := 28) rfl rfl (hitem 28 (by decide) ⟨hpre 28 rfl, hout _ (by decide)⟩), wp_load_row 23 _ rfl _ (houter _ rfl) _ (x0.map bv).toArray (0, 0) _ (keep_of hb7 hg) Tryd.underlying23 rfl (hashV_size _ (hS.out)) (h1 ⟨_, rfl⟩ _ _ (grown_refl _ none) rfl (nobl (blocks_bytes _)) (FreshB.none (blocks_bytes _)))⟩
        · cases (show some _ = some o from ho)
          refine .inl ?_
          exact ⟨wanted_of (j := 28) rfl rfl (hitem 28 (by decide) ⟨hpre 28 rfl, hout _ (by decide)⟩), wp_move rfl (h1 ⟨_, rfl⟩ _ _ (grown_refl _ none) (houter _ rfl) (by rw [houter _ rfl]; exact nobl rfl) (by rw [houter _ rfl]; exact FreshB.none rfl))⟩
        · cases (show some _ = some o from ho)
          refine .inl ?_
          have x79 : a.eval (.tmp 79) = (.agg (x0.map bv).toArray) := hitem 30 (by decide) ⟨hpre 30 rfl, hout _ (by decide)⟩
          have x80 : a.eval (.tmp 80) = .int .i64 ((i : Int) + 1) := hitem 31 (by decide) ⟨hpre 31 rfl, hout _ (by decide)⟩
          refine ⟨wanted_of (j := 28) rfl rfl (hitem 28 (by decide) ⟨hpre 28 rfl, hout _ (by decide)⟩), wp_call rfl Tryd.func15 (by kernel_rfl) (by kernel_rfl) (args := #[(.agg (x0.map bv).toArray), .int .i64 ((i : Int) + 1)]) (by simp [x79, x80]) ((hsd w (hk.kept hg)).mono ?_)⟩
          rintro e w' ⟨rfl, hg'⟩
          exact ⟨_, rfl, h1 ⟨_, rfl⟩ _ _ hg' rfl (nobl (blocks_bytes _)) (FreshB.none (blocks_bytes _))⟩
        · cases (show some _ = some o from ho)
          refine .inl ?_
          have x81 : a.eval (.tmp 81) = (.agg (Y.map bv).toArray) := hitem 32 (by decide) ⟨hpre 32 rfl, hout _ (by decide)⟩
          refine ⟨wanted_of (j := 28) rfl rfl (hitem 28 (by decide) ⟨hpre 28 rfl, hout _ (by decide)⟩), wp_call rfl Tryd.func19 (by kernel_rfl) (by kernel_rfl) (args := #[(.agg (Y.map bv).toArray)]) (by simp [x81]) ((hky w (hk.kept hg)).mono ?_)⟩
          rintro e w' ⟨rfl, hg'⟩
          exact ⟨_, rfl, h1 ⟨_, rfl⟩ _ _ hg' rfl (nobl (blocks_bytes _)) (FreshB.none (blocks_bytes _))⟩
        · cases (show some _ = some o from ho)
          refine .inl ?_
          exact ⟨wanted_of (j := 28) rfl rfl (hitem 28 (by decide) ⟨hpre 28 rfl, hout _ (by decide)⟩), wp_bin rfl (hitem 29 (by decide) ⟨hpre 29 rfl, hout _ (by decide)⟩) (hitem 33 (by decide) ⟨hpre 33 rfl, hout _ (by decide)⟩) (guard_hash _ _ _ _ _) (eqlH_same X hXl.out _) (h1 ⟨_, rfl⟩ _ _ (grown_refl _ none) rfl (nobl rfl) (FreshB.none rfl))⟩
        · cases (show some _ = some o from ho)
          refine .inl ?_
          have hc := hitem 28 (by decide) ⟨hpre 28 rfl, hout _ (by decide)⟩
          have hx := hitem 34 (by decide) ⟨hpre 34 rfl, hout _ (by decide)⟩
          exact ⟨rfl, wp_pick rfl hc (h1 ⟨_, rfl⟩ _ _ (grown_refl _ none) hx (by rw [show a.eval (.tmp 83) = .bool true from hx]; exact nobl rfl) (by rw [show a.eval (.tmp 83) = .bool true from hx]; exact FreshB.none rfl))⟩
        · cases (show some _ = some o from ho)
          refine .inl ?_
          have hx := hitem 35 (by decide) ⟨hpre 35 rfl, hout _ (by decide)⟩
          exact ⟨rfl, wp_move rfl (h1 ⟨_, rfl⟩ _ _ (grown_refl _ none) hx (by rw [show a.eval (.tmp 84) = .bool true from hx]; exact nobl rfl) (by rw [show a.eval (.tmp 84) = .bool true from hx]; exact FreshB.none rfl))⟩
        · cases (show some _ = some o from ho)
          refine .inl ?_
          exact ⟨wanted_of (j := 36) rfl rfl (hitem 36 (by decide) ⟨hpre 36 rfl, hout _ (by decide)⟩), wp_field rfl (houter 17 rfl) (field_S2 _) (h1 ⟨_, rfl⟩ _ _ (grown_refl _ none) rfl (nobl rfl) (FreshB.none rfl))⟩
        · cases (show some _ = some o from ho)
          refine .inl ?_
          exact ⟨wanted_of (j := 36) rfl rfl (hitem 36 (by decide) ⟨hpre 36 rfl, hout _ (by decide)⟩), wp_loadC rfl (hitem 37 (by decide) ⟨hpre 37 rfl, hout _ (by decide)⟩) (load_cell (cell_at3 (keep_of hZ7 hg)) Tryd.underlying24 rfl) (h1 ⟨_, rfl⟩ _ _ (grown_refl _ none) rfl (nobl rfl) (FreshB.none rfl))⟩
        · cases (show some _ = some o from ho)
          refine .inl ?_
          exact ⟨wanted_of (j := 36) rfl rfl (hitem 36 (by decide) ⟨hpre 36 rfl, hout _ (by decide)⟩), wp_len rfl (by kernel_rfl) (hitem 38 (by decide) ⟨hpre 38 rfl, hout _ (by decide)⟩) (h1 ⟨_, rfl⟩ _ _ (grown_refl _ none) rfl (nobl rfl) (FreshB.none rfl))⟩
        · cases (show some _ = some o from ho)
          refine .inl ?_
          exact ⟨wanted_of (j := 36) rfl rfl (hitem 36 (by decide) ⟨hpre 36 rfl, hout _ (by decide)⟩), wp_bin rfl (hitem 39 (by decide) ⟨hpre 39 rfl, hout _ (by decide)⟩) (rfl) (guard_int _ _ _ _ _) (eql_i64 _ _ _ (rfl)) (h1 ⟨_, rfl⟩ _ _ (grown_refl _ none) rfl (nobl rfl) (FreshB.none rfl))⟩
        · cases (show some _ = some o from ho)
          refine .inl ?_
          have hc := hitem 36 (by decide) ⟨hpre 36 rfl, hout _ (by decide)⟩
          have hx := hitem 40 (by decide) ⟨hpre 40 rfl, hout _ (by decide)⟩
          exact ⟨rfl, wp_pick rfl hc (h1 ⟨_, rfl⟩ _ _ (grown_refl _ none) hx (by rw [show a.eval (.tmp 89) = .bool true from hx]; exact nobl rfl) (by rw [show a.eval (.tmp 89) = .bool true from hx]; exact FreshB.none rfl))⟩
        · cases (show some _ = some o from ho)
          refine .inl ?_
          have hx := hitem 41 (by decide) ⟨hpre 41 rfl, hout _ (by decide)⟩
          exact ⟨rfl, wp_move rfl (h1 ⟨_, rfl⟩ _ _ (grown_refl _ none) hx (by rw [show a.eval (.tmp 90) = .bool true from hx]; exact nobl rfl) (by rw [show a.eval (.tmp 90) = .bool true from hx]; exact FreshB.none rfl))⟩
        · cases (show some _ = some o from ho)
          refine .inl ?_
          exact ⟨wanted_of (j := 42) rfl rfl (hitem 42 (by decide) ⟨hpre 42 rfl, hout _ (by decide)⟩), wp_field rfl (houter 17 rfl) (field_S0p _) (h1 ⟨_, rfl⟩ _ _ (grown_refl _ none) rfl (nobl rfl) (FreshB.none rfl))⟩
        · cases (show some _ = some o from ho)
          refine .inl ?_
          exact ⟨wanted_of (j := 42) rfl rfl (hitem 42 (by decide) ⟨hpre 42 rfl, hout _ (by decide)⟩), wp_loadC rfl (hitem 43 (by decide) ⟨hpre 43 rfl, hout _ (by decide)⟩) (load_cell (cell_at0 (keep_of hZ7 hg)) Tryd.underlying3 rfl) (h1 ⟨_, rfl⟩ _ _ (grown_refl _ none) rfl (nobl rfl) (FreshB.none rfl))⟩
        · cases (show some _ = some o from ho)
          refine .inl ?_
          exact ⟨wanted_of (j := 42) rfl rfl (hitem 42 (by decide) ⟨hpre 42 rfl, hout _ (by decide)⟩), wp_bin rfl (hitem 44 (by decide) ⟨hpre 44 rfl, hout _ (by decide)⟩) (rfl) (guard_int _ _ _ _ _) (eql_i64 _ _ _ (rfl)) (h1 ⟨_, rfl⟩ _ _ (grown_refl _ none) rfl (nobl rfl) (FreshB.none rfl))⟩
        · cases (show some _ = some o from ho)
          refine .inl ?_
          have hc := hitem 42 (by decide) ⟨hpre 42 rfl, hout _ (by decide)⟩
          have hx := hitem 45 (by decide) ⟨hpre 45 rfl, hout _ (by decide)⟩
          exact ⟨rfl, wp_pick rfl hc (h1 ⟨_, rfl⟩ _ _ (grown_refl _ none) hx (by rw [show a.eval (.tmp 94) = .bool true from hx]; exact nobl rfl) (by rw [show a.eval (.tmp 94) = .bool true from hx]; exact FreshB.none rfl))⟩
        · cases (show some _ = some o from ho)
          refine .inl ?_
          have hx := hitem 46 (by decide) ⟨hpre 46 rfl, hout _ (by decide)⟩
          exact ⟨rfl, wp_move rfl (h1 ⟨_, rfl⟩ _ _ (grown_refl _ none) hx (by rw [show a.eval (.tmp 95) = .bool true from hx]; exact nobl rfl) (by rw [show a.eval (.tmp 95) = .bool true from hx]; exact FreshB.none rfl))⟩
        · cases (show some _ = some o from ho)
          refine .inl ?_
          exact ⟨wanted_of (j := 47) rfl rfl (hitem 47 (by decide) ⟨hpre 47 rfl, hout _ (by decide)⟩), wp_load_row 23 _ rfl _ (houter _ rfl) _ (I.map bv).toArray (0, 0) _ (keep_of hI7 hg) Tryd.underlying23 rfl (hashV_size _ (hIl.out)) (h1 ⟨_, rfl⟩ _ _ (grown_refl _ none) rfl (nobl (blocks_bytes _)) (FreshB.none (blocks_bytes _)))⟩
        · cases (show some _ = some o from ho)
          refine .inl ?_
          exact ⟨wanted_of (j := 47) rfl rfl (hitem 47 (by decide) ⟨hpre 47 rfl, hout _ (by decide)⟩), wp_move rfl (h1 ⟨_, rfl⟩ _ _ (grown_refl _ none) (houter _ rfl) (by rw [houter _ rfl]; exact nobl rfl) (by rw [houter _ rfl]; exact FreshB.none rfl))⟩
        · cases (show some _ = some o from ho)
          refine .inl ?_
          exact ⟨wanted_of (j := 47) rfl rfl (hitem 47 (by decide) ⟨hpre 47 rfl, hout _ (by decide)⟩), wp_load_row 28 _ rfl _ (houter _ rfl) _ #[.int .i64 0, .slice none 0 0, .slice none 0 0, .slice none 0 0] (0, 0) _ (keep_of hZ7 hg) Tryd.underlying28 rfl (size_sig) (h1 ⟨_, rfl⟩ _ _ (grown_refl _ none) rfl (nobl rfl) (FreshB.none rfl))⟩
        · cases (show some _ = some o from ho)
          refine .inl ?_
          have x97 : a.eval (.tmp 97) = (.agg (I.map bv).toArray) := hitem 48 (by decide) ⟨hpre 48 rfl, hout _ (by decide)⟩
          have x98 : a.eval (.tmp 98) = .slice A7 N7 c7 := hitem 49 (by decide) ⟨hpre 49 rfl, hout _ (by decide)⟩
          have x99 : a.eval (.tmp 99) = (.agg #[.int .i64 0, .slice none 0 0, .slice none 0 0, .slice none 0 0]) := hitem 50 (by decide) ⟨hpre 50 rfl, hout _ (by decide)⟩
          refine ⟨wanted_of (j := 47) rfl rfl (hitem 47 (by decide) ⟨hpre 47 rfl, hout _ (by decide)⟩), wp_call rfl Tryd.func10 (by kernel_rfl) (by kernel_rfl) (args := #[(.agg (I.map bv).toArray), .int .i64 17, .slice A7 N7 c7, .agg #[.int .i64 0, .slice none 0 0, .slice none 0 0, .slice none 0 0]]) (by simp [eval_const, x97, x98, x99]) ((hv17 w).mono ?_)⟩
          rintro e w' ⟨rfl, hg'⟩
          exact ⟨_, rfl, h1 ⟨_, rfl⟩ _ _ hg' rfl (nobl rfl) (FreshB.none rfl)⟩
        · cases (show some _ = some o from ho)
          refine .inl ?_
          exact ⟨wanted_of (j := 47) rfl rfl (hitem 47 (by decide) ⟨hpre 47 rfl, hout _ (by decide)⟩), wp_not rfl (hitem 51 (by decide) ⟨hpre 51 rfl, hout _ (by decide)⟩) (h1 ⟨_, rfl⟩ _ _ (grown_refl _ none) rfl (nobl rfl) (FreshB.none rfl))⟩
        · cases (show some _ = some o from ho)
          refine .inl ?_
          have hc := hitem 47 (by decide) ⟨hpre 47 rfl, hout _ (by decide)⟩
          have hx := hitem 52 (by decide) ⟨hpre 52 rfl, hout _ (by decide)⟩
          exact ⟨rfl, wp_pick rfl hc (h1 ⟨_, rfl⟩ _ _ (grown_refl _ none) hx (by rw [show a.eval (.tmp 101) = .bool true from hx]; exact nobl rfl) (by rw [show a.eval (.tmp 101) = .bool true from hx]; exact FreshB.none rfl))⟩
        · cases (show some _ = some o from ho)
          refine .inl ?_
          have hx := hitem 53 (by decide) ⟨hpre 53 rfl, hout _ (by decide)⟩
          exact ⟨rfl, wp_move rfl (h1 ⟨_, rfl⟩ _ _ (grown_refl _ none) hx (by rw [show a.eval (.tmp 102) = .bool true from hx]; exact nobl rfl) (by rw [show a.eval (.tmp 102) = .bool true from hx]; exact FreshB.none rfl))⟩
        · cases (show some _ = some o from ho)
          refine .inl ?_
          exact ⟨wanted_of (j := 54) rfl rfl (hitem 54 (by decide) ⟨hpre 54 rfl, hout _ (by decide)⟩), wp_load_row 23 _ rfl _ (houter _ rfl) _ (I.map bv).toArray (0, 0) _ (keep_of hI7 hg) Tryd.underlying23 rfl (hashV_size _ (hIl.out)) (h1 ⟨_, rfl⟩ _ _ (grown_refl _ none) rfl (nobl (blocks_bytes _)) (FreshB.none (blocks_bytes _)))⟩
        · cases (show some _ = some o from ho)
          refine .inl ?_
          exact ⟨wanted_of (j := 54) rfl rfl (hitem 54 (by decide) ⟨hpre 54 rfl, hout _ (by decide)⟩), wp_move rfl (h1 ⟨_, rfl⟩ _ _ (grown_refl _ none) (houter _ rfl) (by rw [houter _ rfl]; exact nobl rfl) (by rw [houter _ rfl]; exact FreshB.none rfl))⟩
        · cases (show some _ = some o from ho)
          refine .inl ?_
          exact ⟨wanted_of (j := 54) rfl rfl (hitem 54 (by decide) ⟨hpre 54 rfl, hout _ (by decide)⟩), wp_load_row 28 _ rfl _ (houter _ rfl) _ #[.int .i64 0, .slice none 0 0, .slice none 0 0, .slice none 0 0] (0, 0) _ (keep_of hZ7 hg) Tryd.underlying28 rfl (size_sig) (h1 ⟨_, rfl⟩ _ _ (grown_refl _ none) rfl (nobl rfl) (FreshB.none rfl))⟩
        · cases (show some _ = some o from ho)
          refine .inl ?_
          have x104 : a.eval (.tmp 104) = (.agg (I.map bv).toArray) := hitem 55 (by decide) ⟨hpre 55 rfl, hout _ (by decide)⟩
          have x105 : a.eval (.tmp 105) = .slice A7 N7 c7 := hitem 56 (by decide) ⟨hpre 56 rfl, hout _ (by decide)⟩
          have x106 : a.eval (.tmp 106) = (.agg #[.int .i64 0, .slice none 0 0, .slice none 0 0, .slice none 0 0]) := hitem 57 (by decide) ⟨hpre 57 rfl, hout _ (by decide)⟩
          refine ⟨wanted_of (j := 54) rfl rfl (hitem 54 (by decide) ⟨hpre 54 rfl, hout _ (by decide)⟩), wp_call rfl Tryd.func10 (by kernel_rfl) (by kernel_rfl) (args := #[(.agg (I.map bv).toArray), .int .i64 0, .slice A7 N7 c7, .agg #[.int .i64 0, .slice none 0 0, .slice none 0 0, .slice none 0 0]]) (by simp [eval_const, x104, x105, x106]) ((hv0 w).mono ?_)⟩
          rintro e w' ⟨rfl, hg'⟩
          exact ⟨_, rfl, h1 ⟨_, rfl⟩ _ _ hg' rfl (nobl rfl) (FreshB.none rfl)⟩
        · cases (show some _ = some o from ho)
          refine .inl ?_
          exact ⟨wanted_of (j := 54) rfl rfl (hitem 54 (by decide) ⟨hpre 54 rfl, hout _ (by decide)⟩), wp_not rfl (hitem 58 (by decide) ⟨hpre 58 rfl, hout _ (by decide)⟩) (h1 ⟨_, rfl⟩ _ _ (grown_refl _ none) rfl (nobl rfl) (FreshB.none rfl))⟩
        · cases (show some _ = some o from ho)
          refine .inl ?_
          have hc := hitem 54 (by decide) ⟨hpre 54 rfl, hout _ (by decide)⟩
          have hx := hitem 59 (by decide) ⟨hpre 59 rfl, hout _ (by decide)⟩
          exact ⟨rfl, wp_pick rfl hc (h1 ⟨_, rfl⟩ _ _ (grown_refl _ none) hx (by rw [show a.eval (.tmp 108) = .bool true from hx]; exact nobl rfl) (by rw [show a.eval (.tmp 108) = .bool true from hx]; exact FreshB.none rfl))⟩
        · cases (show some _ = some o from ho)
          refine .inl ?_
          have hx := hitem 60 (by decide) ⟨hpre 60 rfl, hout _ (by decide)⟩
          exact ⟨rfl, wp_move rfl (h1 ⟨_, rfl⟩ _ _ (grown_refl _ none) hx (by rw [show a.eval (.tmp 109) = .bool true from hx]; exact nobl rfl) (by rw [show a.eval (.tmp 109) = .bool true from hx]; exact FreshB.none rfl))⟩
        · cases (show some _ = some o from ho)
          refine .inl ?_
          refine ⟨wanted_of (j := 61) rfl rfl (hitem 61 (by decide) ⟨hpre 61 rfl, hout _ (by decide)⟩), wp_call rfl Tryd.func3 (by kernel_rfl) (by kernel_rfl) (args := #[]) (by simp) ((RingRuns_any w (hk.kept hg)).mono ?_)⟩
          rintro e w' ⟨rfl, hg'⟩
          exact ⟨_, rfl, h1 ⟨_, rfl⟩ _ _ hg' rfl (nobl rfl) (FreshB.none rfl)⟩
        · cases (show some _ = some o from ho)
          refine .inl ?_
          have hc := hitem 61 (by decide) ⟨hpre 61 rfl, hout _ (by decide)⟩
          have hx := hitem 62 (by decide) ⟨hpre 62 rfl, hout _ (by decide)⟩
          exact ⟨rfl, wp_pick rfl hc (h1 ⟨_, rfl⟩ _ _ (grown_refl _ none) hx (by rw [show a.eval (.tmp 111) = .bool true from hx]; exact nobl rfl) (by rw [show a.eval (.tmp 111) = .bool true from hx]; exact FreshB.none rfl))⟩
        · cases (show some _ = some o from ho)
          refine .inl ?_
          have hx := hitem 63 (by decide) ⟨hpre 63 rfl, hout _ (by decide)⟩
          exact ⟨rfl, wp_assign rfl (h1 ⟨_, rfl⟩ _ _ (grown_refl _ none) hx (by rw [show a.eval (.tmp 112) = .bool true from hx]; exact nobl rfl) (by rw [show a.eval (.tmp 112) = .bool true from hx]; exact FreshB.none rfl))⟩
      · intro a wT hgT hend hap ha
        obtain ⟨f, hf⟩ : ∃ f : Nat → Value, f = fun t => a.tmps.getD t undef := ⟨_, rfl⟩
        have s8 : f 8 = .bool true := by rw [hf]; exact (hend 64 (by decide) (by decide)).1
        rw [← hf] at ha
        clear hend hap
        clear hf
        subst ha
        simp only [fill, htcS, Nat.reduceAdd, Nat.reduceBEq, Bool.or_false, Bool.or_true, cond_true, cond_false, s8]
        clear s8
        change wpList _ _ _ [] _ _
        go_wp2_with fail
        go_ret
        exact ⟨rfl, grown_same hg7 hgT⟩

end Go.Proofs.YtohdifimfhdhoaaDoor
