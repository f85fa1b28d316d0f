/- The law on turned signatures: its contract. -/
import Derived.Test.YtmfnncfiaaeknaaDoorLamG
import Derived.Deep.DeepCutAuto
namespace Go.Proofs.YtmfnncfiaaeknaaDoor
open Go.RowKit

def uaS (t : Nat) : Bool := t == 15 || t == 28 || t == 29 || t == 30 || t == 31 || t == 32 || t == 33 || t == 34 || t == 35 || t == 36 || t == 37 || t == 38 || t == 39 || t == 40 || t == 41
def uaDie (k : Nat) : Nat := if k = 0 then 6 else if k = 6 then 14 else if k = 7 then 13 else 99
def uaOwn (k : Nat) : Bool := k == 0 || k == 6 || k == 7 || k == 13 || k == 14
def uaAl (k : Nat) : Bool := k == 1 || k == 2 || k == 5 || k == 8 || k == 9 || k == 12
def uaF (A1 A2 : Option Addr) (n1 n2 ca1 ca2 q1 q2 : Nat) (L1 L2 : List UInt8) : Nat → Value → World → Prop
  | 0 => fun v w => OwnB w v []
  | 1 => fun v _ => v = .slice A1 n1 ca1
  | 2 => fun v _ => v = .slice A1 n1 ca1
  | 3 => fun v _ => v = .int .i64 ((n1 : Nat) : Int)
  | 4 => fun v _ => v = .int .i64 ((q1 : Nat) : Int)
  | 5 => fun v _ => v = .slice A1 q1 ca1
  | 6 => fun v w => OwnB w v (L1)
  | 7 => fun v w => OwnB w v []
  | 8 => fun v _ => v = .slice A2 n2 ca2
  | 9 => fun v _ => v = .slice A2 n2 ca2
  | 10 => fun v _ => v = .int .i64 ((n2 : Nat) : Int)
  | 11 => fun v _ => v = .int .i64 ((q2 : Nat) : Int)
  | 12 => fun v _ => v = .slice A2 q2 ca2
  | 13 => fun v w => OwnB w v (L2)
  | 14 => fun v w => OwnB w v (L1)
  | _ => fun _ _ => True
theorem uaF_lasts (A1 A2 : Option Addr) (n1 n2 ca1 ca2 q1 q2 : Nat) (L1 L2 : List UInt8) : ∀ kq, LastsB uaAl kq (uaF A1 A2 n1 n2 ca1 ca2 q1 q2 L1 L2 kq)
  | 0 => LastsB.ownB rfl _
  | 1 => LastsB.val _
  | 2 => LastsB.val _
  | 3 => LastsB.val _
  | 4 => LastsB.val _
  | 5 => LastsB.val _
  | 6 => LastsB.ownB rfl _
  | 7 => LastsB.ownB rfl _
  | 8 => LastsB.val _
  | 9 => LastsB.val _
  | 10 => LastsB.val _
  | 11 => LastsB.val _
  | 12 => LastsB.val _
  | 13 => LastsB.ownB rfl _
  | 14 => LastsB.ownB rfl _
  | _ + 15 => fun _ _ _ _ _ _ _ => trivial
def ubS (t : Nat) : Bool := t == 17 || t == 18 || t == 42 || t == 43 || t == 44 || t == 45 || t == 46
def ubDie (k : Nat) : Nat := if k = 5 then 7 else 99
def ubOwn (k : Nat) : Bool := k == 5 || k == 6 || k == 7
def ubAl (k : Nat) : Bool := k == 5 || k == 6 || k == 7
def ubF (x0 X L1 : List UInt8) (A7 : Option Addr) (c7 : Nat) : Nat → Value → World → Prop
  | 0 => fun v _ => v = (.agg (x0.map bv).toArray)
  | 1 => fun v _ => v = (.agg (X.map bv).toArray)
  | 2 => fun v _ => v = (.agg (x0.map bv).toArray)
  | 3 => fun v _ => v = .slice A7 L1.length c7
  | 4 => SigAt (openF x0 L1) (shutF x0 L1)
  | 5 => Made (rowH []) 23
  | 6 => Made #[.slice none 0 0, .slice none 0 0] 28
  | 7 => Stored 23
  | _ => fun _ _ => True
theorem ubF_lasts (x0 X L1 : List UInt8) (A7 : Option Addr) (c7 : Nat) : ∀ kq, LastsB ubAl kq (ubF x0 X L1 A7 c7 kq)
  | 0 => LastsB.val _
  | 1 => LastsB.val _
  | 2 => LastsB.val _
  | 3 => LastsB.val _
  | 4 => LastsB.sig rfl _ _
  | 5 => LastsB.made rfl _ _
  | 6 => LastsB.made rfl _ _
  | 7 => LastsB.stored rfl _
  | _ + 8 => fun _ _ _ _ _ _ _ => trivial
def ucS (t : Nat) : Bool := t == 19 || t == 64 || t == 65 || t == 66 || t == 67 || t == 68 || t == 69 || t == 70 || t == 71 || t == 72
def ucDie (k : Nat) : Nat := if k = 0 then 3 else if k = 3 then 8 else if k = 4 then 7 else if k = 7 then 8 else 99
def ucOwn (k : Nat) : Bool := k == 0 || k == 3 || k == 4 || k == 7 || k == 8 || k == 9
def ucAl (k : Nat) : Bool := k == 2 || k == 6 || k == 9
def ucF (g1 c1 g2 c2 b18 : Nat) (OL HL : List UInt8) : Nat → Value → World → Prop
  | 0 => fun v w => OwnHs w v [] 0
  | 1 => fun v _ => v = .pointer (some ⟨b18, 0, none⟩)
  | 2 => fun v _ => v = .slice (some ⟨g1, 0, none⟩) 32 c1
  | 3 => fun v w => OwnHs w v ([] ++ OL) (0 + 32)
  | 4 => fun v w => OwnHs w v [] 0
  | 5 => fun v _ => v = .pointer (some ⟨b18, 1, none⟩)
  | 6 => fun v _ => v = .slice (some ⟨g2, 0, none⟩) 32 c2
  | 7 => fun v w => OwnHs w v ([] ++ HL) (0 + 32)
  | 8 => OwnTwo ([] ++ OL) ([] ++ HL)
  | 9 => Made #[.slice none 0 0, .slice none 0 0] 28
  | _ => fun _ _ => True
theorem ucF_lasts (g1 c1 g2 c2 b18 : Nat) (OL HL : List UInt8) : ∀ kq, LastsB ucAl kq (ucF g1 c1 g2 c2 b18 OL HL kq)
  | 0 => LastsB.ownH rfl _ _
  | 1 => LastsB.val _
  | 2 => LastsB.val _
  | 3 => LastsB.ownH rfl _ _
  | 4 => LastsB.ownH rfl _ _
  | 5 => LastsB.val _
  | 6 => LastsB.val _
  | 7 => LastsB.ownH rfl _ _
  | 8 => LastsB.ownTwo rfl _ _
  | 9 => LastsB.made rfl _ _
  | _ + 10 => fun _ _ _ _ _ _ _ => trivial
def udS (t : Nat) : Bool := t == 78 || t == 79 || t == 80 || t == 81 || t == 82 || t == 83 || t == 84 || t == 85 || t == 86 || t == 87 || t == 88 || t == 89 || t == 90 || t == 91 || t == 92
def udDie (_ : Nat) : Nat := 99
def udOwn (_ : Nat) : Bool := false
def udAl (k : Nat) : Bool := k == 1
def udF (b19 at_ by_ g3 c3 : Nat) (z : UInt8) : Nat → Value → World → Prop
  | 0 => fun v _ => v = .pointer (some ⟨b19, 0, none⟩)
  | 1 => fun v _ => v = .slice (some ⟨g3, 0, none⟩) 32 c3
  | 2 => fun v _ => v = (.int .i64 (at_ : Int))
  | 3 => fun v _ => v = (.int .i64 (by_ : Int))
  | 4 => fun v _ => v = .int .i64 ((by_ / 8 : Nat) : Int)
  | 5 => fun v _ => v = .pointer (some ⟨g3, at_ * 32, none⟩)
  | 6 => fun v _ => v = .pointer (some ⟨g3, at_ * 32 + by_ / 8, none⟩)
  | 7 => fun v _ => v = bv z
  | 8 => fun v _ => v = (.int .i64 (by_ : Int))
  | 9 => fun v _ => v = .int .i64 ((by_ % 8 : Nat) : Int)
  | 10 => fun v _ => v = .int .u64 ((by_ % 8 : Nat) : Int)
  | 11 => fun v _ => v = .int .u8 ((2 ^ (by_ % 8) : Nat) : Int)
  | 12 => fun v _ => v = .int .u8 (((z ^^^ UInt8.ofNat (2 ^ (by_ % 8))).toNat : Nat) : Int)
  | 13 => fun v _ => v = .pointer (some ⟨g3, at_ * 32, none⟩)
  | 14 => fun v _ => v = .pointer (some ⟨g3, at_ * 32 + by_ / 8, none⟩)
  | _ => fun _ _ => True
theorem udF_lasts (b19 at_ by_ g3 c3 : Nat) (z : UInt8) : ∀ kq, LastsB udAl kq (udF b19 at_ by_ g3 c3 z kq)
  | 0 => LastsB.val _
  | 1 => LastsB.val _
  | 2 => LastsB.val _
  | 3 => LastsB.val _
  | 4 => LastsB.val _
  | 5 => LastsB.val _
  | 6 => LastsB.val _
  | 7 => LastsB.val _
  | 8 => LastsB.val _
  | 9 => LastsB.val _
  | 10 => LastsB.val _
  | 11 => LastsB.val _
  | 12 => LastsB.val _
  | 13 => LastsB.val _
  | 14 => LastsB.val _
  | _ + 15 => fun _ _ _ _ _ _ _ => trivial
def ueS (t : Nat) : Bool := t == 93 || t == 94 || t == 95 || t == 96 || t == 97 || t == 98 || t == 99 || t == 100 || t == 101 || t == 102 || t == 103 || t == 104 || t == 105 || t == 106 || t == 107
def ueDie (_ : Nat) : Nat := 99
def ueOwn (_ : Nat) : Bool := false
def ueAl (k : Nat) : Bool := k == 1
def ueF (b19 at_ by_ g4 c4 : Nat) (z : UInt8) : Nat → Value → World → Prop
  | 0 => fun v _ => v = .pointer (some ⟨b19, 1, none⟩)
  | 1 => fun v _ => v = .slice (some ⟨g4, 0, none⟩) 32 c4
  | 2 => fun v _ => v = (.int .i64 (at_ : Int))
  | 3 => fun v _ => v = (.int .i64 (by_ : Int))
  | 4 => fun v _ => v = .int .i64 ((by_ / 8 : Nat) : Int)
  | 5 => fun v _ => v = .pointer (some ⟨g4, at_ * 32, none⟩)
  | 6 => fun v _ => v = .pointer (some ⟨g4, at_ * 32 + by_ / 8, none⟩)
  | 7 => fun v _ => v = bv z
  | 8 => fun v _ => v = (.int .i64 (by_ : Int))
  | 9 => fun v _ => v = .int .i64 ((by_ % 8 : Nat) : Int)
  | 10 => fun v _ => v = .int .u64 ((by_ % 8 : Nat) : Int)
  | 11 => fun v _ => v = .int .u8 ((2 ^ (by_ % 8) : Nat) : Int)
  | 12 => fun v _ => v = .int .u8 (((z ^^^ UInt8.ofNat (2 ^ (by_ % 8))).toNat : Nat) : Int)
  | 13 => fun v _ => v = .pointer (some ⟨g4, at_ * 32, none⟩)
  | 14 => fun v _ => v = .pointer (some ⟨g4, at_ * 32 + by_ / 8, none⟩)
  | _ => fun _ _ => True
theorem ueF_lasts (b19 at_ by_ g4 c4 : Nat) (z : UInt8) : ∀ kq, LastsB ueAl kq (ueF b19 at_ by_ g4 c4 z kq)
  | 0 => LastsB.val _
  | 1 => LastsB.val _
  | 2 => LastsB.val _
  | 3 => LastsB.val _
  | 4 => LastsB.val _
  | 5 => LastsB.val _
  | 6 => LastsB.val _
  | 7 => LastsB.val _
  | 8 => LastsB.val _
  | 9 => LastsB.val _
  | 10 => LastsB.val _
  | 11 => LastsB.val _
  | 12 => LastsB.val _
  | 13 => LastsB.val _
  | 14 => LastsB.val _
  | _ + 15 => fun _ _ _ _ _ _ _ => trivial
def ufS (t : Nat) : Bool := t == 14 || t == 134 || t == 135 || t == 136 || t == 137 || t == 138 || t == 139 || t == 140 || t == 141 || t == 142 || t == 143 || t == 144 || t == 145 || t == 146 || t == 147 || t == 148 || t == 149 || t == 150 || t == 151 || t == 152 || t == 153 || t == 154 || t == 155 || t == 156 || t == 157 || t == 158 || t == 159 || t == 160 || t == 161 || t == 162 || t == 163 || t == 164 || t == 165 || t == 166 || t == 167 || t == 168 || t == 169 || t == 170 || t == 171 || t == 172 || t == 173 || t == 174 || t == 175
def ufDie (_ : Nat) : Nat := 99
def ufOwn (_ : Nat) : Bool := false
def ufAl (k : Nat) : Bool := k == 1 || k == 2 || k == 19 || k == 20 || k == 30 || k == 31
def ufF (x1 X U Y1 Y2 L1 L2 : List UInt8) (A7 A8 : Option Addr) (c7 c8 g1 c1 g2 c2 g3 c3 g4 c4 : Nat) (b1 b3 : Bool) : Nat → Value → World → Prop
  | 0 => fun v _ => v = (.agg (X.map bv).toArray)
  | 1 => fun v _ => v = .slice A8 L2.length c8
  | 2 => fun v _ => v = (.agg #[.slice (some ⟨g1, 0, none⟩) 32 c1, .slice (some ⟨g2, 0, none⟩) 32 c2])
  | 3 => fun v _ => v = .bool true
  | 4 => fun v _ => v = (.agg (Y2.map bv).toArray)
  | 5 => fun v _ => v = (.agg (X.map bv).toArray)
  | 6 => fun v _ => v = .bool true
  | 7 => fun v _ => v = .bool true
  | 8 => fun v _ => v = .bool true
  | 9 => fun v _ => v = .bool true
  | 10 => fun v _ => v = .bool false
  | 11 => fun v _ => v = .bool false
  | 12 => fun v _ => v = (.agg (Y2.map bv).toArray)
  | 13 => fun v _ => v = (.agg (X.map bv).toArray)
  | 14 => fun v _ => v = .bool true
  | 15 => fun v _ => v = .bool true
  | 16 => fun v _ => v = .bool true
  | 17 => fun v _ => v = .bool true
  | 18 => fun v _ => v = (.agg (X.map bv).toArray)
  | 19 => fun v _ => v = .slice A7 L1.length c7
  | 20 => fun v _ => v = (.agg #[.slice (some ⟨g3, 0, none⟩) 32 c3, .slice (some ⟨g4, 0, none⟩) 32 c4])
  | 21 => fun v _ => v = .bool b1
  | 22 => fun v _ => v = (.agg (Y1.map bv).toArray)
  | 23 => fun v _ => v = (.agg (X.map bv).toArray)
  | 24 => fun v _ => v = .bool b1
  | 25 => fun v _ => v = .bool true
  | 26 => fun v _ => v = .bool true
  | 27 => fun v _ => v = .bool true
  | 28 => fun v _ => v = (.agg (x1.map bv).toArray)
  | 29 => fun v _ => v = (.agg (U.map bv).toArray)
  | 30 => fun v _ => v = .slice A7 L1.length c7
  | 31 => fun v _ => v = (.agg #[.slice (some ⟨g1, 0, none⟩) 32 c1, .slice (some ⟨g2, 0, none⟩) 32 c2])
  | 32 => fun v _ => v = .bool b3
  | 33 => fun v _ => v = (.agg (x1.map bv).toArray)
  | 34 => fun v _ => v = (.agg (U.map bv).toArray)
  | 35 => fun v _ => v = (.agg (X.map bv).toArray)
  | 36 => fun v _ => v = .bool b3
  | 37 => fun v _ => v = .bool true
  | 38 => fun v _ => v = .bool true
  | 39 => fun v _ => v = .bool true
  | 40 => fun v _ => v = .bool true
  | 41 => fun v _ => v = .bool true
  | 42 => fun v _ => v = .bool true
  | _ => fun _ _ => True
theorem ufF_lasts (x1 X U Y1 Y2 L1 L2 : List UInt8) (A7 A8 : Option Addr) (c7 c8 g1 c1 g2 c2 g3 c3 g4 c4 : Nat) (b1 b3 : Bool) : ∀ kq, LastsB ufAl kq (ufF x1 X U Y1 Y2 L1 L2 A7 A8 c7 c8 g1 c1 g2 c2 g3 c3 g4 c4 b1 b3 kq)
  | 0 => LastsB.val _
  | 1 => LastsB.val _
  | 2 => LastsB.val _
  | 3 => LastsB.val _
  | 4 => LastsB.val _
  | 5 => LastsB.val _
  | 6 => LastsB.val _
  | 7 => LastsB.val _
  | 8 => LastsB.val _
  | 9 => LastsB.val _
  | 10 => LastsB.val _
  | 11 => LastsB.val _
  | 12 => LastsB.val _
  | 13 => LastsB.val _
  | 14 => LastsB.val _
  | 15 => LastsB.val _
  | 16 => LastsB.val _
  | 17 => LastsB.val _
  | 18 => LastsB.val _
  | 19 => LastsB.val _
  | 20 => LastsB.val _
  | 21 => LastsB.val _
  | 22 => LastsB.val _
  | 23 => LastsB.val _
  | 24 => LastsB.val _
  | 25 => LastsB.val _
  | 26 => LastsB.val _
  | 27 => LastsB.val _
  | 28 => LastsB.val _
  | 29 => LastsB.val _
  | 30 => LastsB.val _
  | 31 => LastsB.val _
  | 32 => LastsB.val _
  | 33 => LastsB.val _
  | 34 => LastsB.val _
  | 35 => LastsB.val _
  | 36 => LastsB.val _
  | 37 => LastsB.val _
  | 38 => LastsB.val _
  | 39 => LastsB.val _
  | 40 => LastsB.val _
  | 41 => LastsB.val _
  | 42 => LastsB.val _
  | _ + 43 => fun _ _ _ _ _ _ _ => trivial
def ugS (t : Nat) : Bool := t == 14 || t == 134 || t == 135 || t == 136 || t == 137 || t == 138 || t == 139 || t == 140 || t == 141 || t == 142 || t == 143 || t == 144 || t == 145 || t == 146 || t == 147 || t == 148 || t == 149 || t == 150 || t == 151 || t == 152 || t == 153 || t == 154 || t == 155 || t == 156 || t == 157 || t == 158 || t == 159 || t == 160 || t == 161 || t == 162 || t == 163 || t == 164 || t == 165 || t == 166 || t == 167 || t == 168 || t == 169 || t == 170 || t == 171 || t == 172 || t == 173 || t == 174 || t == 175
def ugDie (_ : Nat) : Nat := 99
def ugOwn (_ : Nat) : Bool := false
def ugAl (k : Nat) : Bool := k == 1 || k == 2 || k == 19 || k == 20 || k == 30 || k == 31
def ugF (x1 X U Y1 Y2 L1 L2 : List UInt8) (A7 A8 : Option Addr) (c7 c8 g1 c1 g2 c2 g3 c3 g4 c4 : Nat) (b1 b2 b3 : Bool) : Nat → Value → World → Prop
  | 0 => fun v _ => v = (.agg (X.map bv).toArray)
  | 1 => fun v _ => v = .slice A8 L2.length c8
  | 2 => fun v _ => v = (.agg #[.slice (some ⟨g1, 0, none⟩) 32 c1, .slice (some ⟨g2, 0, none⟩) 32 c2])
  | 3 => fun v _ => v = .bool b2
  | 4 => fun v _ => v = (.agg (Y2.map bv).toArray)
  | 5 => fun v _ => v = (.agg (X.map bv).toArray)
  | 6 => fun v _ => v = .bool b2
  | 7 => fun v _ => v = .bool true
  | 8 => fun v _ => v = .bool true
  | 9 => fun v _ => v = .bool false
  | 10 => fun v _ => v = .bool true
  | 11 => fun v _ => v = .bool true
  | 12 => fun v _ => v = undef
  | 13 => fun v _ => v = undef
  | 14 => fun v _ => v = undef
  | 15 => fun v _ => v = .bool true
  | 16 => fun v _ => v = .bool true
  | 17 => fun v _ => v = .bool true
  | 18 => fun v _ => v = (.agg (X.map bv).toArray)
  | 19 => fun v _ => v = .slice A7 L1.length c7
  | 20 => fun v _ => v = (.agg #[.slice (some ⟨g3, 0, none⟩) 32 c3, .slice (some ⟨g4, 0, none⟩) 32 c4])
  | 21 => fun v _ => v = .bool b1
  | 22 => fun v _ => v = (.agg (Y1.map bv).toArray)
  | 23 => fun v _ => v = (.agg (X.map bv).toArray)
  | 24 => fun v _ => v = .bool b1
  | 25 => fun v _ => v = .bool true
  | 26 => fun v _ => v = .bool true
  | 27 => fun v _ => v = .bool true
  | 28 => fun v _ => v = (.agg (x1.map bv).toArray)
  | 29 => fun v _ => v = (.agg (U.map bv).toArray)
  | 30 => fun v _ => v = .slice A7 L1.length c7
  | 31 => fun v _ => v = (.agg #[.slice (some ⟨g1, 0, none⟩) 32 c1, .slice (some ⟨g2, 0, none⟩) 32 c2])
  | 32 => fun v _ => v = .bool b3
  | 33 => fun v _ => v = (.agg (x1.map bv).toArray)
  | 34 => fun v _ => v = (.agg (U.map bv).toArray)
  | 35 => fun v _ => v = (.agg (X.map bv).toArray)
  | 36 => fun v _ => v = .bool b3
  | 37 => fun v _ => v = .bool true
  | 38 => fun v _ => v = .bool true
  | 39 => fun v _ => v = .bool true
  | 40 => fun v _ => v = .bool true
  | 41 => fun v _ => v = .bool true
  | 42 => fun v _ => v = .bool true
  | _ => fun _ _ => True
theorem ugF_lasts (x1 X U Y1 Y2 L1 L2 : List UInt8) (A7 A8 : Option Addr) (c7 c8 g1 c1 g2 c2 g3 c3 g4 c4 : Nat) (b1 b2 b3 : Bool) : ∀ kq, LastsB ugAl kq (ugF x1 X U Y1 Y2 L1 L2 A7 A8 c7 c8 g1 c1 g2 c2 g3 c3 g4 c4 b1 b2 b3 kq)
  | 0 => LastsB.val _
  | 1 => LastsB.val _
  | 2 => LastsB.val _
  | 3 => LastsB.val _
  | 4 => LastsB.val _
  | 5 => LastsB.val _
  | 6 => LastsB.val _
  | 7 => LastsB.val _
  | 8 => LastsB.val _
  | 9 => LastsB.val _
  | 10 => LastsB.val _
  | 11 => LastsB.val _
  | 12 => LastsB.val _
  | 13 => LastsB.val _
  | 14 => LastsB.val _
  | 15 => LastsB.val _
  | 16 => LastsB.val _
  | 17 => LastsB.val _
  | 18 => LastsB.val _
  | 19 => LastsB.val _
  | 20 => LastsB.val _
  | 21 => LastsB.val _
  | 22 => LastsB.val _
  | 23 => LastsB.val _
  | 24 => LastsB.val _
  | 25 => LastsB.val _
  | 26 => LastsB.val _
  | 27 => LastsB.val _
  | 28 => LastsB.val _
  | 29 => LastsB.val _
  | 30 => LastsB.val _
  | 31 => LastsB.val _
  | 32 => LastsB.val _
  | 33 => LastsB.val _
  | 34 => LastsB.val _
  | 35 => LastsB.val _
  | 36 => LastsB.val _
  | 37 => LastsB.val _
  | 38 => LastsB.val _
  | 39 => LastsB.val _
  | 40 => LastsB.val _
  | 41 => LastsB.val _
  | 42 => LastsB.val _
  | _ + 43 => fun _ _ _ _ _ _ _ => trivial
theorem guard_bool (x y : Operand) (b d : Bool) (w : World) : (eqGuard .eql 4 x y (.bool b) (.bool d)).run Tryd.prog w = .ok () w := by cases b <;> cases d <;> kernel_rfl
theorem eqB_true (b : Bool) (w : World) : (binOp .eql 4 (.bool b) (.bool b)).run Tryd.prog w = .ok (.bool true) w := by cases b <;> kernel_rfl
theorem wp_pick_no {P : Program} {o : Oper} {a : Act} {w : World} {K : Act → World → Prop} {Q : Exit → Act → World → Prop} {c x y : Operand} (ho : o.op = .pick c x y) (hc : a.eval c = .bool false) (h : K (a.put o.dst (a.eval y)) w) : Oper.wp P o a w K Q := by
  unfold Oper.wp execOp
  simp [ho, hc, asBool]
  exact h
theorem beq_flip (x y : List UInt8) : (x == y) = (y == x) := by
  rw [Bool.eq_iff_iff, beq_iff_eq, beq_iff_eq]; exact eq_comm

set_option maxRecDepth 100000 in
set_option maxHeartbeats 4000000 in
theorem LamTurned_any (x0 : List UInt8) (hx0 : x0.length = 32) (x1 : List UInt8) (hx1 : x1.length = 32) (A1 : Option Addr) (l1 : List UInt8) (ca1 : Nat) (A2 : Option Addr) (l2 : List UInt8) (ca2 : Nat) (n4 n5 : Int) (op : Bool) (W0 : World) (hk : Laid2 W0) (hr1 : RdB W0 A1 l1) (hc1 : l1.length ≤ ca1) (hr2 : RdB W0 A2 l2) (hc2 : l2.length ≤ ca2) :
    Calls Tryd.prog 3 #[.agg (x0.map bv).toArray, .agg (x1.map bv).toArray, .slice A1 l1.length ca1, .slice A2 l2.length ca2, .int .i64 n4, .int .i64 n5, .bool op] W0 fun e w' => e = .returned (.bool true) ∧ W0.grownBy w' none := by
  obtain ⟨q1, hminA1, hq1n, hq1k⟩ := min_some l1.length 40
  obtain ⟨q2, hminA2, hq2n, hq2k⟩ := min_some l2.length 40
  obtain ⟨L1, hL1⟩ : ∃ L, L = l1.take q1 := ⟨_, rfl⟩
  obtain ⟨L2, hL2⟩ : ∃ L, L = l2.take q2 := ⟨_, rfl⟩
  have hlA1 : Hid (L1.length = q1) := by show _ = _; rw [hL1, List.length_take]; omega
  have hlA2 : Hid (L2.length = q2) := by show _ = _; rw [hL2, List.length_take]; omega
  have hrA1 : RdB W0 A1 L1 := by rw [hL1]; exact rd_takeB hr1 q1
  have hrA2 : RdB W0 A2 L2 := by rw [hL2]; exact rd_takeB hr2 q2
  clear hL1 hL2 hr1 hr2
  have hxl := Lib.hid hx0
  have hyl := Lib.hid hx1
  clear hx0 hx1
  have hqA1 : q1 ≤ ca1 := by omega
  have hqA2 : q2 ≤ ca2 := by omega
  have hl30 : Hid (L1.length ≤ 40 ∧ L2.length ≤ 40) := by show _ ∧ _; rw [hlA1.out, hlA2.out]; exact ⟨hq1k, hq2k⟩
  obtain ⟨at_, hat, hWat⟩ := Within_nat n4 31 (by omega)
  obtain ⟨by_, hby, hWby⟩ := Within_nat n5 255 (by omega)
  generalize hn1 : l1.length = n1 at *
  generalize hn2 : l2.length = n2 at *
  clear hn1 hn2
  go_enter Tryd.func3, Tryd.ntmps3
  go_upto_region 1 with (fail)
  have hseed1 : ((W0.alloc (.cells (x0.map bv).toArray 23)).alloc (.cells (x1.map bv).toArray 23)).heap[W0.heap.size]? = some (.cells (x0.map bv).toArray 23 (0, 0)) := alloc_old (alloc_at rfl)
  have hother1 : ((W0.alloc (.cells (x0.map bv).toArray 23)).alloc (.cells (x1.map bv).toArray 23)).heap[W0.heap.size + 1]? = some (.cells (x1.map bv).toArray 23 (0, 0)) := alloc_at (by simp)
  have hg1 : W0.grownBy ((W0.alloc (.cells (x0.map bv).toArray 23)).alloc (.cells (x1.map bv).toArray 23)) none := grown_alloc (grown_alloc (grown_refl _ _) _) _
  generalize (W0.alloc (.cells (x0.map bv).toArray 23)).alloc (.cells (x1.map bv).toArray 23) = W1 at hseed1 hother1 hg1 ⊢
  replace hrA1 := hrA1.kept hg1
  replace hrA2 := hrA2.kept hg1
  refine wp_region_gb (al := uaAl) 15 (N := 176) (S := uaS) (die := uaDie) (own := uaOwn) (F := uaF A1 A2 n1 n2 ca1 ca2 q1 q2 L1 L2) (by kernel_rfl) (Nat.le_of_ble_eq_true (by kernel_rfl)) (fun _ => by kernel_rfl) (fun _ => by kernel_rfl) (by kernel_rfl) (by kernel_rfl) (Nat.le_of_ble_eq_true (by kernel_rfl)) (uaF_lasts A1 A2 n1 n2 ca1 ca2 q1 q2 L1 L2) ?_ ?_
  · intro i o L' a w K hi ho hg hLi hout hpre houter hitem h1 h2 h3
    have hcases : i = 0 ∨ i = 1 ∨ i = 2 ∨ i = 3 ∨ i = 4 ∨ i = 5 ∨ i = 6 ∨ i = 7 ∨ i = 8 ∨ i = 9 ∨ i = 10 ∨ i = 11 ∨ i = 12 ∨ i = 13 ∨ i = 14 := by omega
    rcases hcases with rfl | rfl | rfl | rfl | rfl | rfl | rfl | rfl | rfl | rfl | rfl | rfl | rfl | rfl | rfl
    · cases (show some _ = some o from ho)
      exact ⟨rfl, wp_lit0 rfl (lit_none _) (h1 ⟨_, rfl⟩ _ _ (grown_alloc (grown_refl _ _) _) (ownB_new _ #[] [] 0 rfl rfl (Nat.zero_le _)) (new_lt _ _) (FreshB.new (new_ge _)))⟩
    · cases (show some _ = some o from ho)
      exact ⟨rfl, wp_move rfl (h1 ⟨_, rfl⟩ _ _ (grown_refl _ none) (houter _ rfl) (by rw [houter _ rfl]; exact nobl rfl) (by rw [houter _ rfl]; exact FreshB.none rfl))⟩
    · cases (show some _ = some o from ho)
      exact ⟨rfl, wp_move rfl (h1 ⟨_, rfl⟩ _ _ (grown_refl _ none) (houter _ rfl) (by rw [houter _ rfl]; exact nobl rfl) (by rw [houter _ rfl]; exact FreshB.none rfl))⟩
    · cases (show some _ = some o from ho)
      exact ⟨rfl, wp_len rfl (by kernel_rfl) (hitem 2 (by decide) ⟨hpre 2 rfl, hout _ (by decide)⟩) (h1 ⟨_, rfl⟩ _ _ (grown_refl _ none) rfl (nobl rfl) (FreshB.none rfl))⟩
    · cases (show some _ = some o from ho)
      exact ⟨rfl, wp_min rfl (hitem 3 (by decide) ⟨hpre 3 rfl, hout _ (by decide)⟩) rfl (hminA1) (h1 ⟨_, rfl⟩ _ _ (grown_refl _ none) rfl (nobl rfl) (FreshB.none rfl))⟩
    · cases (show some _ = some o from ho)
      exact ⟨rfl, wp_slice_hi rfl (hitem 1 (by decide) ⟨hpre 1 rfl, hout _ (by decide)⟩) (hitem 4 (by decide) ⟨hpre 4 rfl, hout _ (by decide)⟩) (sl_hiB A1 n1 ca1 q1 hqA1 _) (h1 ⟨_, rfl⟩ _ _ (grown_refl _ none) rfl (nobl rfl) (FreshB.none rfl))⟩
    · cases (show some _ = some o from ho)
      have hu := hitem 0 (by decide) ⟨hpre 0 rfl, hLi⟩
      exact ⟨rfl, wp_appB rfl rfl hu (hitem 5 (by decide) ⟨hpre 5 rfl, hout _ (by decide)⟩) (hlA1.out.symm) (hrA1.kept hg) (by have := hl30.out; simp; omega) fun v w' hv hw => h2 ⟨_, rfl⟩ 0 v w' _ (by decide) ⟨hpre 0 rfl, hLi⟩ rfl rfl hw.1 (own_mem hu) hv (own_lt hv) (grew_blocks hu hv hw)⟩
    · cases (show some _ = some o from ho)
      exact ⟨rfl, wp_lit0 rfl (lit_none _) (h1 ⟨_, rfl⟩ _ _ (grown_alloc (grown_refl _ _) _) (ownB_new _ #[] [] 0 rfl rfl (Nat.zero_le _)) (new_lt _ _) (FreshB.new (new_ge _)))⟩
    · cases (show some _ = some o from ho)
      exact ⟨rfl, wp_move rfl (h1 ⟨_, rfl⟩ _ _ (grown_refl _ none) (houter _ rfl) (by rw [houter _ rfl]; exact nobl rfl) (by rw [houter _ rfl]; exact FreshB.none rfl))⟩
    · cases (show some _ = some o from ho)
      exact ⟨rfl, wp_move rfl (h1 ⟨_, rfl⟩ _ _ (grown_refl _ none) (houter _ rfl) (by rw [houter _ rfl]; exact nobl rfl) (by rw [houter _ rfl]; exact FreshB.none rfl))⟩
    · cases (show some _ = some o from ho)
      exact ⟨rfl, wp_len rfl (by kernel_rfl) (hitem 9 (by decide) ⟨hpre 9 rfl, hout _ (by decide)⟩) (h1 ⟨_, rfl⟩ _ _ (grown_refl _ none) rfl (nobl rfl) (FreshB.none rfl))⟩
    · cases (show some _ = some o from ho)
      exact ⟨rfl, wp_min rfl (hitem 10 (by decide) ⟨hpre 10 rfl, hout _ (by decide)⟩) rfl (hminA2) (h1 ⟨_, rfl⟩ _ _ (grown_refl _ none) rfl (nobl rfl) (FreshB.none rfl))⟩
    · cases (show some _ = some o from ho)
      exact ⟨rfl, wp_slice_hi rfl (hitem 8 (by decide) ⟨hpre 8 rfl, hout _ (by decide)⟩) (hitem 11 (by decide) ⟨hpre 11 rfl, hout _ (by decide)⟩) (sl_hiB A2 n2 ca2 q2 hqA2 _) (h1 ⟨_, rfl⟩ _ _ (grown_refl _ none) rfl (nobl rfl) (FreshB.none rfl))⟩
    · cases (show some _ = some o from ho)
      have hu := hitem 7 (by decide) ⟨hpre 7 rfl, hLi⟩
      exact ⟨rfl, wp_appB rfl rfl hu (hitem 12 (by decide) ⟨hpre 12 rfl, hout _ (by decide)⟩) (hlA2.out.symm) (hrA2.kept hg) (by have := hl30.out; simp; omega) fun v w' hv hw => h2 ⟨_, rfl⟩ 7 v w' _ (by decide) ⟨hpre 7 rfl, hLi⟩ rfl rfl hw.1 (own_mem hu) hv (own_lt hv) (grew_blocks hu hv hw)⟩
    · cases (show some _ = some o from ho)
      have hu := hitem 6 (by decide) ⟨hpre 6 rfl, hLi⟩
      exact ⟨rfl, wp_assign rfl (h2 ⟨_, rfl⟩ 6 _ _ none (by decide) ⟨hpre 6 rfl, hLi⟩ rfl rfl (grown_refl _ none) (fun g e => by cases e) hu (own_lt hu) (fun g e => .inr (.inl e)))⟩
  · intro a W hgT hend hap ha
    obtain ⟨f, hf⟩ : ∃ f : Nat → Value, f = fun t => a.tmps.getD t undef := ⟨_, rfl⟩
    have o15 := (hend 14 (by decide) (by decide)).1
    obtain ⟨A7, c7, q15, hc7, hm7, hr7⟩ := OwnB.slice o15
    replace o15 := q15 ▸ o15
    have s15 := (congrFun hf 15).trans q15
    have o41 := (hend 13 (by decide) (by decide)).1
    obtain ⟨A8, c8, q41, hc8, hm8, hr8⟩ := OwnB.slice o41
    replace o41 := q41 ▸ o41
    have s41 := (congrFun hf 41).trans q41
    rw [← hf] at ha
    clear hend hap
    clear hf
    clear q15 q41
    subst ha
    simp only [fill, uaS, Nat.reduceAdd, Nat.reduceBEq, Bool.or_false, Bool.or_true, cond_true, cond_false, List.drop_succ_cons, List.drop_zero, s15, s41]
    replace o15 : OwnB W (.slice A7 L1.length c7) L1 := o15
    replace o41 : OwnB W (.slice A8 L2.length c8) L2 := o41
    clear s15 s41
    have hlt7 := blocks_own o15
    have hlt8 := blocks_own o41
    have hseed := keep_of hseed1 hgT
    have hother := keep_of hother1 hgT
    have hgW : W0.grownBy W none := grown_same hg1 hgT
    replace hk := hk.kept hgW
    have hLb1 : L1.length ≤ 1000 := by have := hl30.out; omega
    have hLb2 : L2.length ≤ 1000 := by have := hl30.out; omega
    have hsz := lt_of_heap hother
    clear o15 o41 hgT hseed1 hother1 hg1 hrA1 hrA2 hminA1 hminA2 hlA1 hlA2 hqA1 hqA2 hq1n hq1k hq2n hq2k
    obtain ⟨X, hX⟩ : ∃ X, X = keyL x0 := ⟨_, rfl⟩
    have hXl : Hid (X.length = 32) := by rw [hX]; exact tagL_len _ _
    have hkey := fun w' (h : Laid2 w') => Key_any x0 hxl.out w' h
    rw [← hX] at hkey
    go_wp2_with fail
    refine wp_region_gb (al := ubAl) 8 (N := 176) (S := ubS) (die := ubDie) (own := ubOwn) (F := ubF x0 X L1 A7 c7) (by kernel_rfl) (Nat.le_of_ble_eq_true (by kernel_rfl)) (fun _ => by kernel_rfl) (fun _ => by kernel_rfl) (by kernel_rfl) (by kernel_rfl) (Nat.le_of_ble_eq_true (by kernel_rfl)) (ubF_lasts x0 X L1 A7 c7) ?_ ?_
    · intro i o L' a w K hi ho hg hLi hout hpre houter hitem h1 h2 h3
      have hcases : i = 0 ∨ i = 1 ∨ i = 2 ∨ i = 3 ∨ i = 4 ∨ i = 5 ∨ i = 6 ∨ i = 7 := by omega
      rcases hcases with rfl | rfl | rfl | rfl | rfl | rfl | rfl | rfl
      · cases (show some _ = some o from ho)
        exact ⟨rfl, wp_load_row 23 _ rfl _ (houter _ rfl) _ (x0.map bv).toArray (0, 0) _ (keep_of hseed hg) Tryd.underlying23 rfl (hashV_size _ (hxl.out)) (h1 ⟨_, rfl⟩ _ _ (grown_refl _ none) rfl (nobl (blocks_bytes _)) (FreshB.none (blocks_bytes _)))⟩
      · cases (show some _ = some o from ho)
        have x42 : a.eval (.tmp 42) = (.agg (x0.map bv).toArray) := hitem 0 (by decide) ⟨hpre 0 rfl, hout _ (by decide)⟩
        refine ⟨rfl, wp_call rfl Tryd.func9 (by kernel_rfl) (by kernel_rfl) (args := #[(.agg (x0.map bv).toArray)]) (by simp [x42]) ((hkey w (hk.kept hg)).mono ?_)⟩
        rintro e w' ⟨rfl, hg'⟩
        exact ⟨_, rfl, h1 ⟨_, rfl⟩ _ _ hg' rfl (nobl (blocks_bytes _)) (FreshB.none (blocks_bytes _))⟩
      · cases (show some _ = some o from ho)
        exact ⟨rfl, wp_load_row 23 _ rfl _ (houter _ rfl) _ (x0.map bv).toArray (0, 0) _ (keep_of hseed hg) Tryd.underlying23 rfl (hashV_size _ (hxl.out)) (h1 ⟨_, rfl⟩ _ _ (grown_refl _ none) rfl (nobl (blocks_bytes _)) (FreshB.none (blocks_bytes _)))⟩
      · cases (show some _ = some o from ho)
        exact ⟨rfl, wp_move rfl (h1 ⟨_, rfl⟩ _ _ (grown_refl _ none) (houter _ rfl) (by rw [houter _ rfl]; exact fun g e => Nat.lt_of_lt_of_le (hlt7 g e) hg.size) (by rw [houter _ rfl]; exact FreshB.old rfl hlt7))⟩
      · cases (show some _ = some o from ho)
        have x44 : a.eval (.tmp 44) = (.agg (x0.map bv).toArray) := hitem 2 (by decide) ⟨hpre 2 rfl, hout _ (by decide)⟩
        have x45 : a.eval (.tmp 45) = .slice A7 L1.length c7 := hitem 3 (by decide) ⟨hpre 3 rfl, hout _ (by decide)⟩
        refine ⟨rfl, wp_call rfl Tryd.func10 (by kernel_rfl) (by kernel_rfl) (args := #[(.agg (x0.map bv).toArray), .slice A7 L1.length c7]) (by simp [x44, x45]) ((Sign_sig x0 hxl.out A7 L1 c7 w (hk.kept hg) (hr7.kept hg) hLb1).mono ?_)⟩
        rintro e w' ⟨v, rfl, hf', hg', hn', ht'⟩
        exact ⟨_, rfl, h1 ⟨_, rfl⟩ _ _ hg' hf' ht' (FreshB.new hn')⟩
      · cases (show some _ = some o from ho)
        exact ⟨rfl, wp_alloc rfl (alloc_H _) (h1 ⟨_, rfl⟩ _ _ (grown_alloc (grown_refl _ _) _) ⟨_, rfl, heap_alloc_new _ _⟩ (new_lt _ _) (FreshB.new (new_ge _)))⟩
      · cases (show some _ = some o from ho)
        exact ⟨rfl, wp_alloc rfl (alloc_O _) (h1 ⟨_, rfl⟩ _ _ (grown_alloc (grown_refl _ _) _) ⟨_, rfl, heap_alloc_new _ _⟩ (new_lt _ _) (FreshB.new (new_ge _)))⟩
      · cases (show some _ = some o from ho)
        obtain ⟨b, e1, hb⟩ := hitem 5 (by decide) ⟨hpre 5 rfl, hLi⟩
        have x2 : a.eval (.tmp 43) = .agg (X.map bv).toArray := hitem 1 (by decide) ⟨hpre 1 rfl, hout _ (by decide)⟩
        exact ⟨rfl, wp_store_row 23 _ _ rfl b (X.map bv).toArray e1 x2 23 _ hb (hashV_size _ hXl.out) (by rw [rowH_size _ (by simp), List.size_toArray, List.length_map, hXl.out]) (bv_all' _) (h3 rfl 5 _ _ (some b) (by decide) ⟨hpre 5 rfl, hLi⟩ rfl rfl (grown_setRow (grown_refl _ _) (.inl rfl) _) (fun g e => by cases e; rw [show valB _ a 5 = _ from e1]; exact List.mem_singleton.2 rfl) ⟨b, _, (by rw [show valB _ a 7 = .tuple #[a.eval (.tmp 17), a.eval (.tmp 43)] from rfl, show a.eval (.tmp 17) = _ from e1, x2]), setRow_heap _ _ _ _ _ _ hb⟩ (fun g h => by rw [show valB _ a 7 = .tuple #[a.eval (.tmp 17), a.eval (.tmp 43)] from rfl, show a.eval (.tmp 17) = _ from e1] at h; rw [show valB _ a 5 = _ from e1]; exact h))⟩
    · intro a wT hgT hend hap ha
      obtain ⟨f, hf⟩ : ∃ f : Nat → Value, f = fun t => a.tmps.getD t undef := ⟨_, rfl⟩
      have s43 : f 43 = (.agg (X.map bv).toArray) := by rw [hf]; exact (hend 1 (by decide) (by decide)).1
      obtain ⟨g1, c1, g2, c2, q46, hc1, hc2, hc3, hc4, r1, r2⟩ := (hend 4 (by decide) (by decide)).1
      have s46 := (congrFun hf 46).trans q46
      obtain ⟨⟨b17, C17, q17, hh17⟩, fr17⟩ := hend 7 (by decide) (by decide)
      have f17 : W.heap.size ≤ b17 := fr17 rfl b17 (by rw [q17]; exact List.mem_singleton.2 rfl)
      have p17 := tuple_two (show Value.tuple #[_, _] = _ from q17)
      have s17 := (congrFun hf 17).trans p17.1
      have v17 : f 43 = .agg C17 := (congrFun hf 43).trans p17.2
      obtain rfl := Value.agg.inj (v17.symm.trans s43)
      clear v17
      obtain ⟨⟨b18, q18, hh18⟩, fr18⟩ := hend 6 (by decide) (by decide)
      have f18 : W.heap.size ≤ b18 := fr18 rfl b18 (by rw [q18]; exact List.mem_singleton.2 rfl)
      have s18 := (congrFun hf 18).trans q18
      have n17_18 : b17 ≠ b18 := fun e => hap 7 6 (by decide) (by decide) (by decide) (by decide) (by decide) rfl b18 (by rw [q18]; exact List.mem_singleton.2 rfl) (by rw [q17, e]; exact List.mem_singleton.2 rfl)
      rw [← hf] at ha
      clear hend hap
      clear hf
      clear q46 q17 p17 fr17 q18 fr18
      subst ha
      simp only [fill, ubS, Nat.reduceAdd, Nat.reduceBEq, Bool.or_false, Bool.or_true, cond_true, cond_false, List.drop_succ_cons, List.drop_zero, s43, s46, s17, s18]
      clear s43 s46 s17 s18
      have m1 := part_ne (openF_len x0 L1) r1 hh18 (by simp)
      have m2 := part_ne (shutF_len x0 L1) r2 hh18 (by simp)
      have hgs : wT.grownBy (wT.setRow b18 #[.slice (some ⟨g1, 0, none⟩) 32 c1, .slice (some ⟨g2, 0, none⟩) 32 c2]) (some b18) := grown_setRow (grown_refl _ _) (.inl rfl) _
      have h18 : (wT.setRow b18 #[.slice (some ⟨g1, 0, none⟩) 32 c1, .slice (some ⟨g2, 0, none⟩) 32 c2]).heap[b18]? = some (.cells #[.slice (some ⟨g1, 0, none⟩) 32 c1, .slice (some ⟨g2, 0, none⟩) 32 c2] 28 (0, 0)) := setRow_heap _ _ _ _ _ _ hh18
      have h17 : (wT.setRow b18 #[.slice (some ⟨g1, 0, none⟩) 32 c1, .slice (some ⟨g2, 0, none⟩) 32 c2]).heap[b17]? = some (.cells (X.map bv).toArray 23 (0, 0)) := (setRow_other _ _ _ _ n17_18).trans hh17
      have hgB : W.grownBy (wT.setRow b18 #[.slice (some ⟨g1, 0, none⟩) 32 c1, .slice (some ⟨g2, 0, none⟩) 32 c2]) none := grown_trans hgT hgs (.inr fun g e => by cases e; exact f18)
      replace r1 := r1.keepRow hgs m1
      replace r2 := r2.keepRow hgs m2
      clear hgs m1 m2
      have hver1a := fun w' A c (h1 : Laid2 w') (h2 : RdB w' A L1) h3 h4 => Verify_any X hXl.out A L1 c g1 c1 g2 c2 _ _ (openF_len x0 L1) (shutF_len x0 L1) w' h1 h2 hLb1 h3 h4
      rw [whoF_sign, ← hX, beq_self_eq_true] at hver1a
      have HX := Lib.hid hX
      clear hX
      go_upto_region 5 with (first
        | (refine wpList_store_row rfl 28 _ _ rfl b18 _ rfl rfl 28 _ hh18 size_one rfl (one_two _ _ _ _ _ _) ?_; generalize wT.setRow b18 _ = B at h17 h18 hgB r1 r2 ⊢)
        | (refine wpList_load_row rfl 23 _ rfl b17 rfl _ (X.map bv).toArray (0, 0) _ h17 Tryd.underlying23 rfl (hashV_size _ hXl.out) ?_)
        | (refine wpList_load_row rfl 28 _ rfl b18 rfl _ #[.slice (some ⟨g1, 0, none⟩) 32 c1, .slice (some ⟨g2, 0, none⟩) 32 c2] (0, 0) _ h18 Tryd.underlying28 rfl size_one ?_)
        | (go_at_call 11; refine (hver1a _ A7 c7 (hk.kept hgB) (hr7.kept hgB) r1 r2).mono ?_; rintro e wB ⟨rfl, hgVB⟩; have hc180 : wB.cell? ⟨b18, 0, none⟩ = some (.slice (some ⟨g1, 0, none⟩) 32 c1) := cell_of_cells (keep_of h18 hgVB) rfl; have hc181 : wB.cell? ⟨b18, 1, none⟩ = some (.slice (some ⟨g2, 0, none⟩) 32 c2) := cell_of_cells (keep_of h18 hgVB) rfl))
      clear hc180 hc181
      replace h17 := keep_of h17 hgVB
      replace h18 := keep_of h18 hgVB
      replace r1 := r1.kept hgVB
      replace r2 := r2.kept hgVB
      replace hgB := grown_same hgB hgVB
      clear hgVB hver1a
      obtain ⟨OL, eOL⟩ : ∃ OL, OL = partsF (openF x0 L1) 32 := ⟨_, rfl⟩
      obtain ⟨HL, eHL⟩ : ∃ HL, HL = partsF (shutF x0 L1) 32 := ⟨_, rfl⟩
      have hOL : Hid (OL.length = 32 * 32) := by show _ = _; rw [eOL]; exact partsF_len _ (openF_len x0 L1) 32
      have hHL : Hid (HL.length = 32 * 32) := by show _ = _; rw [eHL]; exact partsF_len _ (shutF_len x0 L1) 32
      rw [← eOL] at r1
      rw [← eHL] at r2
      replace eOL := Lib.hid eOL
      replace eHL := Lib.hid eHL
      replace hk := hk.kept hgB
      replace hr7 := hr7.kept hgB
      replace hr8 := hr8.kept hgB
      replace hseed := keep_of hseed hgB
      replace hother := keep_of hother hgB
      replace hgW := grown_same hgW hgB
      clear hgB hkey hgT
      refine wp_region_gc (al := ucAl) 10 (N := 176) (S := ucS) (die := ucDie) (own := ucOwn) (F := ucF g1 c1 g2 c2 b18 OL HL) (by kernel_rfl) (Nat.le_of_ble_eq_true (by kernel_rfl)) (fun _ => by kernel_rfl) (fun _ => by kernel_rfl) (by kernel_rfl) (by kernel_rfl) (Nat.le_of_ble_eq_true (by kernel_rfl)) (ucF_lasts g1 c1 g2 c2 b18 OL HL) ?_ ?_
      · intro i o L' a w K hi ho hg hLi hout hpre houter hitem hap' h1 h2 h3 h4
        have hcases : i = 0 ∨ i = 1 ∨ i = 2 ∨ i = 3 ∨ i = 4 ∨ i = 5 ∨ i = 6 ∨ i = 7 ∨ i = 8 ∨ i = 9 := by omega
        rcases hcases with rfl | rfl | rfl | rfl | rfl | rfl | rfl | rfl | rfl | rfl
        · cases (show some _ = some o from ho)
          refine .inl ?_
          exact ⟨rfl, wp_lit0 rfl (lit_noneH _) (h1 ⟨_, rfl⟩ _ _ (grown_alloc (grown_refl _ _) _) (ownH_new _) (new_lt _ _) (FreshB.new (new_ge _)))⟩
        · cases (show some _ = some o from ho)
          refine .inl ?_
          exact ⟨rfl, wp_field rfl (houter _ rfl) (field_O _ 0 (by omega)) (h1 ⟨_, rfl⟩ _ _ (grown_refl _ none) rfl (nobl rfl) (FreshB.none rfl))⟩
        · cases (show some _ = some o from ho)
          refine .inl ?_
          exact ⟨rfl, wp_loadC rfl (hitem 1 (by decide) ⟨hpre 1 rfl, hout _ (by decide)⟩) (load_cell (cell_of_cells (keep_of h18 hg) rfl) Tryd.underlying26 rfl) (h1 ⟨_, rfl⟩ _ _ (grown_refl _ none) rfl (nobl rfl) (FreshB.none rfl))⟩
        · cases (show some _ = some o from ho)
          refine .inl ?_
          have hu := hitem 0 (by decide) ⟨hpre 0 rfl, hLi⟩
          exact ⟨rfl, wp_appH rfl rfl hu (hitem 2 (by decide) ⟨hpre 2 rfl, hout _ (by decide)⟩) (r1.kept hg) (hOL.out) (by omega) (by omega) fun v w' hv hw => h2 ⟨_, rfl⟩ 0 v w' _ (by decide) ⟨hpre 0 rfl, hLi⟩ rfl rfl hw.1 (ownH_mem hu) hv (ownH_lt hv) (grewH_blocks hu hv hw)⟩
        · cases (show some _ = some o from ho)
          refine .inl ?_
          exact ⟨rfl, wp_lit0 rfl (lit_noneH _) (h1 ⟨_, rfl⟩ _ _ (grown_alloc (grown_refl _ _) _) (ownH_new _) (new_lt _ _) (FreshB.new (new_ge _)))⟩
        · cases (show some _ = some o from ho)
          refine .inl ?_
          exact ⟨rfl, wp_field rfl (houter _ rfl) (field_O _ 1 (by omega)) (h1 ⟨_, rfl⟩ _ _ (grown_refl _ none) rfl (nobl rfl) (FreshB.none rfl))⟩
        · cases (show some _ = some o from ho)
          refine .inl ?_
          exact ⟨rfl, wp_loadC rfl (hitem 5 (by decide) ⟨hpre 5 rfl, hout _ (by decide)⟩) (load_cell (cell_of_cells (keep_of h18 hg) rfl) Tryd.underlying26 rfl) (h1 ⟨_, rfl⟩ _ _ (grown_refl _ none) rfl (nobl rfl) (FreshB.none rfl))⟩
        · cases (show some _ = some o from ho)
          refine .inl ?_
          have hu := hitem 4 (by decide) ⟨hpre 4 rfl, hLi⟩
          exact ⟨rfl, wp_appH rfl rfl hu (hitem 6 (by decide) ⟨hpre 6 rfl, hout _ (by decide)⟩) (r2.kept hg) (hHL.out) (by omega) (by omega) fun v w' hv hw => h2 ⟨_, rfl⟩ 4 v w' _ (by decide) ⟨hpre 4 rfl, hLi⟩ rfl rfl hw.1 (ownH_mem hu) hv (ownH_lt hv) (grewH_blocks hu hv hw)⟩
        · cases (show some _ = some o from ho)
          refine .inl ?_
          have hu := hitem 3 (by decide) ⟨hpre 3 rfl, hLi⟩
          have hv := hitem 7 (by decide) ⟨hpre 7 rfl, hLi⟩
          obtain ⟨ga, ca, e1, -, -, -⟩ := OwnHs.slice hu (by omega)
          obtain ⟨gb, cb, e2, -, -, -⟩ := OwnHs.slice hv (by omega)
          have hn : ga ≠ gb := fun e => hap' 3 7 (by decide) (by decide) (by decide) ⟨hpre 3 rfl, hLi⟩ ⟨hpre 7 rfl, hLi⟩ rfl gb (by rw [e2]; exact List.mem_singleton.2 rfl) (by rw [e1, e]; exact List.mem_singleton.2 rfl)
          have l1 := ownH_lt hu
          have l2 := ownH_lt hv
          have k1 : ga < w.heap.size := l1 ga (by rw [e1]; exact List.mem_singleton.2 rfl)
          have k2 : gb < w.heap.size := l2 gb (by rw [e2]; exact List.mem_singleton.2 rfl)
          refine ⟨rfl, wp_build2 rfl e1 e2 (build_two _ _ _ _ _ _ _) (h4 ⟨_, rfl⟩ _ _ (grown_refl _ none) ⟨ga, ca, gb, cb, rfl, hn, e1 ▸ hu, e2 ▸ hv⟩ (blocks_two (n := 32) (c := ca) (m := 32) (d := cb) k1 k2) ?_)⟩
          intro g e
          have e' : g ∈ [ga, gb] := e
          simp only [List.mem_cons, List.not_mem_nil, or_false] at e'
          rcases e' with rfl | rfl
          · exact .inr (.inl ⟨3, by decide, ⟨hpre 3 rfl, hLi⟩, rfl, rfl, by rw [show valB _ a 3 = _ from e1]; exact List.mem_singleton.2 rfl⟩)
          · exact .inr (.inl ⟨7, by decide, ⟨hpre 7 rfl, hLi⟩, rfl, rfl, by rw [show valB _ a 7 = _ from e2]; exact List.mem_singleton.2 rfl⟩)
        · cases (show some _ = some o from ho)
          refine .inl ?_
          exact ⟨rfl, wp_alloc rfl (alloc_O _) (h1 ⟨_, rfl⟩ _ _ (grown_alloc (grown_refl _ _) _) ⟨_, rfl, heap_alloc_new _ _⟩ (new_lt _ _) (FreshB.new (new_ge _)))⟩
      · intro a wT hgT hend hap ha
        obtain ⟨f, hf⟩ : ∃ f : Nat → Value, f = fun t => a.tmps.getD t undef := ⟨_, rfl⟩
        obtain ⟨g3, c3, g4, c4, q72, n34, o3, o4⟩ := (hend 8 (by decide) (by decide)).1
        have s72 := (congrFun hf 72).trans q72
        obtain ⟨⟨b19, q19, hh19⟩, fr19⟩ := hend 9 (by decide) (by decide)
        have f19 : wB.heap.size ≤ b19 := fr19 rfl b19 (by rw [q19]; exact List.mem_singleton.2 rfl)
        have s19 := (congrFun hf 19).trans q19
        have fr := (hend 8 (by decide) (by decide)).2 rfl
        have fg3 : wB.heap.size ≤ g3 := fr g3 (by rw [show valB _ a 8 = _ from q72]; exact List.mem_cons_self ..)
        have fg4 : wB.heap.size ≤ g4 := fr g4 (by rw [show valB _ a 8 = _ from q72]; exact List.mem_cons_of_mem _ (List.mem_singleton.2 rfl))
        clear fr
        rw [← hf] at ha
        clear hend hap
        clear hf
        clear q72 q19 fr19
        subst ha
        simp only [fill, ucS, Nat.reduceAdd, Nat.reduceBEq, Bool.or_false, Bool.or_true, cond_true, cond_false, List.drop_succ_cons, List.drop_zero, s72, s19]
        clear s72 s19
        obtain ⟨cu3, hu3, hz3, hM3, hs3, ht3⟩ := OwnHs.row o3
        obtain ⟨cu4, hu4, hz4, hM4, hs4, ht4⟩ := OwnHs.row o4
        rw [List.nil_append] at ht3 ht4
        have nn3 : g3 ≠ b19 := fun e => by rw [e, hh19] at hu3; cases hu3
        have nn4 : g4 ≠ b19 := fun e => by rw [e, hh19] at hu4; cases hu4
        have hgs : wT.grownBy (wT.setRow b19 #[.slice (some ⟨g3, 0, none⟩) 32 c3, .slice (some ⟨g4, 0, none⟩) 32 c4]) (some b19) := grown_setRow (grown_refl _ _) (.inl rfl) _
        have h19 : (wT.setRow b19 #[.slice (some ⟨g3, 0, none⟩) 32 c3, .slice (some ⟨g4, 0, none⟩) 32 c4]).heap[b19]? = some (.cells #[.slice (some ⟨g3, 0, none⟩) 32 c3, .slice (some ⟨g4, 0, none⟩) 32 c4] 28 (0, 0)) := setRow_heap _ _ _ _ _ _ hh19
        have hw3 : (wT.setRow b19 #[.slice (some ⟨g3, 0, none⟩) 32 c3, .slice (some ⟨g4, 0, none⟩) 32 c4]).heap[g3]? = some (.cells cu3 23 (0, 0)) := (setRow_other _ _ _ _ nn3).trans hu3
        have hw4 : (wT.setRow b19 #[.slice (some ⟨g3, 0, none⟩) 32 c3, .slice (some ⟨g4, 0, none⟩) 32 c4]).heap[g4]? = some (.cells cu4 23 (0, 0)) := (setRow_other _ _ _ _ nn4).trans hu4
        have hgC : wB.grownBy (wT.setRow b19 #[.slice (some ⟨g3, 0, none⟩) 32 c3, .slice (some ⟨g4, 0, none⟩) 32 c4]) none := grown_trans hgT hgs (.inr fun g e => by cases e; exact f19)
        clear hgs o3 o4 hu3 hu4
        go_upto_region 7 with (first
          | (refine wpList_store_row rfl 28 _ _ rfl b19 _ rfl rfl 28 _ hh19 size_one rfl (one_two _ _ _ _ _ _) ?_; generalize wT.setRow b19 _ = C at h19 hw3 hw4 hgC ⊢)
          | (go_at_call_of 12 (Value.int .i64 n4); refine (hWat _).mono ?_; rintro e w1 ⟨rfl, rfl⟩)
          | (go_at_call_of 12 (Value.int .i64 n5); refine (hWby _).mono ?_; rintro e w1 ⟨rfl, rfl⟩))
        have hcO : C.cell? ⟨b19, 0, none⟩ = some (.slice (some ⟨g3, 0, none⟩) 32 c3) := cell_of_cells h19 rfl
        have hcS : C.cell? ⟨b19, 1, none⟩ = some (.slice (some ⟨g4, 0, none⟩) 32 c4) := cell_of_cells h19 rfl
        clear hWat hWby
        cases op
        · obtain ⟨z, hz⟩ := cell_of_take (o := at_ * 32 + by_ / 8) ht4 hHL.out (by omega)
          have ha32 : at_ < 32 := by omega
          have hj := hby
          go_wp2_with fail
          refine wp_region_gb (al := ueAl) 15 (N := 176) (S := ueS) (die := ueDie) (own := ueOwn) (F := ueF b19 at_ by_ g4 c4 z) (by kernel_rfl) (Nat.le_of_ble_eq_true (by kernel_rfl)) (fun _ => by kernel_rfl) (fun _ => by kernel_rfl) (by kernel_rfl) (by kernel_rfl) (Nat.le_of_ble_eq_true (by kernel_rfl)) (ueF_lasts b19 at_ by_ g4 c4 z) ?_ ?_
          · intro i o L' a w K hi ho hg hLi hout hpre houter hitem h1 h2 h3
            have hcases : i = 0 ∨ i = 1 ∨ i = 2 ∨ i = 3 ∨ i = 4 ∨ i = 5 ∨ i = 6 ∨ i = 7 ∨ i = 8 ∨ i = 9 ∨ i = 10 ∨ i = 11 ∨ i = 12 ∨ i = 13 ∨ i = 14 := by omega
            rcases hcases with rfl | rfl | rfl | rfl | rfl | rfl | rfl | rfl | rfl | rfl | rfl | rfl | rfl | rfl | rfl
            · cases (show some _ = some o from ho)
              exact ⟨rfl, wp_field rfl (houter _ rfl) (field_O _ 1 (by omega)) (h1 ⟨_, rfl⟩ _ _ (grown_refl _ none) rfl (nobl rfl) (FreshB.none rfl))⟩
            · cases (show some _ = some o from ho)
              exact ⟨rfl, wp_loadC rfl (hitem 0 (by decide) ⟨hpre 0 rfl, hout _ (by decide)⟩) (load_cell (cell_of_cells (keep_of h19 hg) rfl) Tryd.underlying26 rfl) (h1 ⟨_, rfl⟩ _ _ (grown_refl _ none) rfl (nobl rfl) (FreshB.none rfl))⟩
            · cases (show some _ = some o from ho)
              exact ⟨rfl, wp_move rfl (h1 ⟨_, rfl⟩ _ _ (grown_refl _ none) (houter _ rfl) (by rw [houter _ rfl]; exact nobl rfl) (by rw [houter _ rfl]; exact FreshB.none rfl))⟩
            · cases (show some _ = some o from ho)
              exact ⟨rfl, wp_move rfl (h1 ⟨_, rfl⟩ _ _ (grown_refl _ none) (houter _ rfl) (by rw [houter _ rfl]; exact nobl rfl) (by rw [houter _ rfl]; exact FreshB.none rfl))⟩
            · cases (show some _ = some o from ho)
              exact ⟨rfl, wp_bin rfl (hitem 3 (by decide) ⟨hpre 3 rfl, hout _ (by decide)⟩) rfl (by kernel_rfl) (quo8 _ hj _) (h1 ⟨_, rfl⟩ _ _ (grown_refl _ none) rfl (nobl rfl) (FreshB.none rfl))⟩
            · cases (show some _ = some o from ho)
              exact ⟨rfl, wp_index rfl (hitem 1 (by decide) ⟨hpre 1 rfl, hout _ (by decide)⟩) (hitem 2 (by decide) ⟨hpre 2 rfl, hout _ (by decide)⟩) (index_hs _ _ _ _ ha32 _) (h1 ⟨_, rfl⟩ _ _ (grown_refl _ none) rfl (nobl rfl) (FreshB.none rfl))⟩
            · cases (show some _ = some o from ho)
              exact ⟨rfl, wp_index rfl (hitem 5 (by decide) ⟨hpre 5 rfl, hout _ (by decide)⟩) (hitem 4 (by decide) ⟨hpre 4 rfl, hout _ (by decide)⟩) (idx8 _ _ _ (by omega) _) (h1 ⟨_, rfl⟩ _ _ (grown_refl _ none) rfl (nobl rfl) (FreshB.none rfl))⟩
            · cases (show some _ = some o from ho)
              exact ⟨rfl, wp_loadC rfl (hitem 6 (by decide) ⟨hpre 6 rfl, hout _ (by decide)⟩) (load_cell (cell_of_cells (keep_of hw4 hg) hz) Tryd.underlying5 rfl) (h1 ⟨_, rfl⟩ _ _ (grown_refl _ none) rfl (nobl rfl) (FreshB.none rfl))⟩
            · cases (show some _ = some o from ho)
              exact ⟨rfl, wp_move rfl (h1 ⟨_, rfl⟩ _ _ (grown_refl _ none) (houter _ rfl) (by rw [houter _ rfl]; exact nobl rfl) (by rw [houter _ rfl]; exact FreshB.none rfl))⟩
            · cases (show some _ = some o from ho)
              exact ⟨rfl, wp_bin rfl (hitem 8 (by decide) ⟨hpre 8 rfl, hout _ (by decide)⟩) rfl (by kernel_rfl) (rem8 _ _) (h1 ⟨_, rfl⟩ _ _ (grown_refl _ none) rfl (nobl rfl) (FreshB.none rfl))⟩
            · cases (show some _ = some o from ho)
              exact ⟨rfl, wp_conv rfl (hitem 9 (by decide) ⟨hpre 9 rfl, hout _ (by decide)⟩) (conv8 _ (Nat.mod_lt _ (by decide)) _) (h1 ⟨_, rfl⟩ _ _ (grown_refl _ none) rfl (nobl rfl) (FreshB.none rfl))⟩
            · cases (show some _ = some o from ho)
              exact ⟨rfl, wp_bin rfl rfl (hitem 10 (by decide) ⟨hpre 10 rfl, hout _ (by decide)⟩) (by kernel_rfl) (shl8 _ (Nat.mod_lt _ (by decide)) _) (h1 ⟨_, rfl⟩ _ _ (grown_refl _ none) rfl (nobl rfl) (FreshB.none rfl))⟩
            · cases (show some _ = some o from ho)
              exact ⟨rfl, wp_bin rfl (hitem 7 (by decide) ⟨hpre 7 rfl, hout _ (by decide)⟩) (hitem 11 (by decide) ⟨hpre 11 rfl, hout _ (by decide)⟩) (by kernel_rfl) (xor8 _ _ _) (h1 ⟨_, rfl⟩ _ _ (grown_refl _ none) rfl (nobl rfl) (FreshB.none rfl))⟩
            · cases (show some _ = some o from ho)
              exact ⟨rfl, wp_index rfl (hitem 1 (by decide) ⟨hpre 1 rfl, hout _ (by decide)⟩) (hitem 2 (by decide) ⟨hpre 2 rfl, hout _ (by decide)⟩) (index_hs _ _ _ _ ha32 _) (h1 ⟨_, rfl⟩ _ _ (grown_refl _ none) rfl (nobl rfl) (FreshB.none rfl))⟩
            · cases (show some _ = some o from ho)
              exact ⟨rfl, wp_index rfl (hitem 13 (by decide) ⟨hpre 13 rfl, hout _ (by decide)⟩) (hitem 4 (by decide) ⟨hpre 4 rfl, hout _ (by decide)⟩) (idx8 _ _ _ (by omega) _) (h1 ⟨_, rfl⟩ _ _ (grown_refl _ none) rfl (nobl rfl) (FreshB.none rfl))⟩
          · intro a wT hgT hend hap ha
            obtain ⟨f, hf⟩ : ∃ f : Nat → Value, f = fun t => a.tmps.getD t undef := ⟨_, rfl⟩
            have s105 : f 105 = .int .u8 (((z ^^^ UInt8.ofNat (2 ^ (by_ % 8))).toNat : Nat) : Int) := by rw [hf]; exact (hend 12 (by decide) (by decide)).1
            have s107 : f 107 = .pointer (some ⟨g4, at_ * 32 + by_ / 8, none⟩) := by rw [hf]; exact (hend 14 (by decide) (by decide)).1
            rw [← hf] at ha
            clear hend hap
            clear hf
            subst ha
            simp only [fill, ueS, Nat.reduceAdd, Nat.reduceBEq, Bool.or_false, Bool.or_true, cond_true, cond_false, List.drop_succ_cons, List.drop_zero, s105, s107]
            clear s105 s107
            have hcz : wT.cell? ⟨g4, at_ * 32 + by_ / 8, none⟩ = some (.int .u8 (z.toNat : Int)) := cell_of_cells (keep_of hw4 hgT) hz
            have hfz : wT.frozen? ⟨g4, at_ * 32 + by_ / 8, none⟩ = false := frozen_of_row wT _ _ _ _ (keep_of hw4 hgT)
            generalize z ^^^ UInt8.ofNat (2 ^ (by_ % 8)) = z'
            go_upto_region 10 with fail
            have hwN : (wT.setCell ⟨g4, at_ * 32 + by_ / 8, none⟩ (.int .u8 (z'.toNat : Int))).heap[g4]? = some (.cells (cu4.setIfInBounds (at_ * 32 + by_ / 8) (bv z')) 23 (0, 0)) := heap_setCell_to (keep_of hw4 hgT) rfl
            have hwO : (wT.setCell ⟨g4, at_ * 32 + by_ / 8, none⟩ (.int .u8 (z'.toNat : Int))).heap[g3]? = some (.cells cu3 23 (0, 0)) := (Below.heap_setCell _ _ _ _ n34).trans (keep_of hw3 hgT)
            have h19D : (wT.setCell ⟨g4, at_ * 32 + by_ / 8, none⟩ (.int .u8 (z'.toNat : Int))).heap[b19]? = some (.cells #[.slice (some ⟨g3, 0, none⟩) 32 c3, .slice (some ⟨g4, 0, none⟩) 32 c4] 28 (0, 0)) := (Below.heap_setCell _ _ _ _ (Ne.symm nn4)).trans (keep_of h19 hgT)
            have hgD : wB.grownBy (wT.setCell ⟨g4, at_ * 32 + by_ / 8, none⟩ (.int .u8 (z'.toNat : Int))) none := grown_set (grown_same hgC hgT) (.inr fg4) _
            have r4 := rd_of_row hwN hz4 hM4 (by rw [Array.size_setIfInBounds]; exact hs4) (set_take ht4 _ z') (by rw [List.length_set]; exact hHL.out)
            have r3 := rd_of_row hwO hz3 hM3 hs3 ht3 hOL.out
            obtain ⟨f4, hf4, e4⟩ := parts_of _ (show (HL.set (at_ * 32 + by_ / 8) z').length = 32 * 32 by rw [List.length_set]; exact hHL.out)
            obtain ⟨f3, hf3, e3⟩ := parts_of _ hOL.out
            rw [e4] at r4
            rw [e3] at r3
            generalize wT.setCell ⟨g4, at_ * 32 + by_ / 8, none⟩ (.int .u8 (z'.toNat : Int)) = D at h19D hgD r3 r4 ⊢
            clear hwN hwO hcz hfz e3 e4 hz hw3 hw4 hgC ht3 ht4 hs3 hs4 hM3 hM4 hz3 hz4 hgT h19
            rw [eOL.out] at r1
            rw [eHL.out] at r2
            replace h17 := keep_of h17 hgD
            replace h18 := keep_of h18 hgD
            replace r1 := r1.kept hgD
            replace r2 := r2.kept hgD
            replace hk := hk.kept hgD
            replace hr7 := hr7.kept hgD
            replace hr8 := hr8.kept hgD
            replace hother := keep_of hother hgD
            replace hgW := grown_same hgW hgD
            clear hgD eOL eHL hseed hcO hcS
            obtain ⟨Y2, hY2⟩ : ∃ Y, Y = whoF L2 (openF x0 L1) (shutF x0 L1) := ⟨_, rfl⟩
            obtain ⟨Y1, hY1⟩ : ∃ Y, Y = whoF L1 f3 f4 := ⟨_, rfl⟩
            have hYl2 : Hid (Y2.length = 32) := by rw [hY2]; exact whoF_len _ _ _
            have hYl1 : Hid (Y1.length = 32) := by rw [hY1]; exact whoF_len _ _ _
            have hwX := RWho_any A8 L2 c8 g1 c1 g2 c2 _ _ (openF_len x0 L1) (shutF_len x0 L1) D hr8 hLb2 r1 r2
            have hwY := fun w' (h : D.grownBy w' none) => RWho_any A7 L1 c7 g3 c3 g4 c4 _ _ hf3 hf4 w' (hr7.kept h) hLb1 (r3.kept h) (r4.kept h)
            rw [← hY2] at hwX
            rw [← hY1] at hwY
            replace hY2 := Lib.hid hY2
            replace hY1 := Lib.hid hY1
            go_upto_region 12 with (first
              | (refine wpList_load_row rfl 28 _ rfl b18 rfl _ #[.slice (some ⟨g1, 0, none⟩) 32 c1, .slice (some ⟨g2, 0, none⟩) 32 c2] (0, 0) _ h18 Tryd.underlying28 rfl size_one ?_)
              | (go_at_call_of 13 (Value.slice A8 L2.length c8); refine hwX.mono ?_; rintro e wX ⟨rfl, hgX⟩)
              | (refine wpList_store_row rfl 23 _ _ rfl (wX.heap.size) (Y2.map bv).toArray rfl rfl 23 _ (alloc_at rfl) (hashV_size Y2 hYl2.out) (by rw [show (Y2.map bv).toArray.size = 32 from by rw [List.size_toArray, List.length_map, hYl2.out]]; rfl) (bv_all' _) ?_; generalize hwV : World.setRow _ _ _ = V; have HWV := new_hash hwV; clear hwV; have hgV : D.grownBy V none := grown_same hgX HWV.2; have h19V := keep_of h19D hgV)
              | (refine wpList_load_row rfl 28 _ rfl b19 rfl _ #[.slice (some ⟨g3, 0, none⟩) 32 c3, .slice (some ⟨g4, 0, none⟩) 32 c4] (0, 0) _ h19V Tryd.underlying28 rfl size_one ?_)
              | (go_at_call_of 13 (Value.slice A7 L1.length c7); refine (hwY _ hgV).mono ?_; rintro e wY ⟨rfl, hgY⟩)
              | (refine wpList_store_row rfl 23 _ _ rfl (wY.heap.size) (Y1.map bv).toArray rfl rfl 23 _ (alloc_at rfl) (hashV_size Y1 hYl1.out) (by rw [show (Y1.map bv).toArray.size = 32 from by rw [List.size_toArray, List.length_map, hYl1.out]]; rfl) (bv_all' _) ?_; generalize hwZ : World.setRow _ _ _ = Z; have HWZ := new_hash hwZ; clear hwZ))
            have gZ : D.grownBy Z none := grown_same hgV (grown_same hgY HWZ.2)
            have h22 : Z.heap[wX.heap.size]? = some (.cells (Y2.map bv).toArray 23 (0, 0)) := keep_of HWV.1 (grown_same hgY HWZ.2)
            have h24 := HWZ.1
            clear HWV HWZ hgX hgY hgV h19V
            generalize wX.heap.size = b22 at h22 ⊢
            generalize wY.heap.size = b24 at h24 ⊢
            replace h17 := keep_of h17 gZ
            replace h18 := keep_of h18 gZ
            have h19 := keep_of h19D gZ
            replace r1 := r1.kept gZ
            replace r2 := r2.kept gZ
            replace r3 := r3.kept gZ
            replace r4 := r4.kept gZ
            replace hk := hk.kept gZ
            replace hr7 := hr7.kept gZ
            replace hr8 := hr8.kept gZ
            replace hother := keep_of hother gZ
            replace hgW := grown_same hgW gZ
            clear gZ h19D hwX hwY
            have hbit1 := fun k (h : k < 256) w' (h1 : Laid2 w') (h2 : RdB w' A7 L1) => Bit_any A7 L1 c7 k w' h1 h2 hLb1 h
            have hbit2 := fun k (h : k < 256) w' (h1 : Laid2 w') (h2 : RdB w' A8 L2) => Bit_any A8 L2 c8 k w' h1 h2 hLb2 h
            go_wp2_with fail
            go_loopw [26, 120] (fun s i wz => ∃ k : Nat, k ≤ 32 ∧ i = .int .i64 k ∧ s = .bool (decide (∀ j, j < k → bitL L1 j = bitL L2 j)) ∧ Z.grownBy wz none) (fun _ i _ => 32 - (intOf i).toNat)
            case atStart => exact ⟨0, by omega, rfl, by rw [decide_eq_true (fun j h => absurd h (Nat.not_lt_zero j))], grown_refl _ _⟩
            case round =>
              obtain ⟨k, hkl, rfl, rfl, hgz⟩ := hrel
              by_cases hlt : k < 32
              · have hlt' : (k : Int) < 32 := by omega
                have hbk1 := hbit1 k (by omega) _ (hk.kept hgz) (hr7.kept hgz)
                have hbk2 := fun w' (h : wr.grownBy w' none) => hbit2 k (by omega) w' (hk.kept (grown_same hgz h)) (hr8.kept (grown_same hgz h))
                have hnx : (∀ j, j < k + 1 → bitL L1 j = bitL L2 j) ↔ (∀ j, j < k → bitL L1 j = bitL L2 j) ∧ bitL L1 k = bitL L2 k :=
                  ⟨fun h => ⟨fun j hj => h j (by omega), h k (by omega)⟩, fun h j hj => by
                    by_cases e : j = k
                    · rw [e]; exact h.2
                    · exact h.1 j (by omega)⟩
                have HN : Hid (decide (∀ j, j < k + 1 → bitL L1 j = bitL L2 j) = (decide (∀ j, j < k → bitL L1 j = bitL L2 j) && decide (bitL L1 k = bitL L2 k))) := by
                  show _ = _
                  rw [← Bool.decide_and]
                  exact decide_eq_decide.2 hnx
                clear hnx hbit1 hbit2
                generalize decide (∀ j, j < k → bitL L1 j = bitL L2 j) = sm at HN ⊢
                generalize bitL L1 k = y1 at hbk1 HN
                generalize bitL L2 k = y2 at hbk2 HN
                cases sm
                · go_wp2_with fail
                  go_roundw
                  case rel => exact ⟨k + 1, by omega, by go_num, by rw [HN.out]; rfl, hgz⟩
                  case measure => simp [intOf]; omega
                · by_cases hy : y1 = y2
                  · subst hy
                    go_wp2_with (first
                      | (go_at_call_of 14 (Value.slice A7 L1.length c7); refine hbk1.mono ?_; rintro e wG ⟨rfl, hgG⟩)
                      | (go_at_call_of 14 (Value.slice A8 L2.length c8); refine (hbk2 _ hgG).mono ?_; rintro e wF ⟨rfl, hgF⟩))
                    go_roundw
                    case rel => exact ⟨k + 1, by omega, by go_num, by rw [HN.out]; simp, grown_same hgz (grown_same hgG hgF)⟩
                    case measure => simp [intOf]; omega
                  · have hy' : ¬ (y1 : Int) = (y2 : Int) := by omega
                    go_wp2_with (first
                      | (go_at_call_of 14 (Value.slice A7 L1.length c7); refine hbk1.mono ?_; rintro e wG ⟨rfl, hgG⟩)
                      | (go_at_call_of 14 (Value.slice A8 L2.length c8); refine (hbk2 _ hgG).mono ?_; rintro e wF ⟨rfl, hgF⟩))
                    go_roundw
                    case rel => exact ⟨k + 1, by omega, by go_num, by rw [HN.out]; simp [hy, hy'], grown_same hgz (grown_same hgG hgF)⟩
                    case measure => simp [intOf]; omega
              · have hkk : k = 32 := by omega
                have hS : decide (∀ j, j < k → bitL L1 j = bitL L2 j) = true → Y2 = X := fun h => by
                  rw [hY2.out, HX.out, ← whoF_sign x0 L1]
                  exact whoF_congr fun i hi => ⟨(of_decide_eq_true h i (by omega)).symm, rfl, rfl⟩
                generalize decide (∀ j, j < k → bitL L1 j = bitL L2 j) = sm at hS ⊢
                subst hkk
                rw [show ((32 : Nat) : Int) = 32 from rfl]
                have HS := Lib.hid hS
                clear hS
                go_upto_region 18 with fail
                have hS := HS.out
                clear HS
                replace h17 := keep_of h17 hgz
                replace h18 := keep_of h18 hgz
                replace h19 := keep_of h19 hgz
                replace h22 := keep_of h22 hgz
                replace h24 := keep_of h24 hgz
                replace r1 := r1.kept hgz
                replace r2 := r2.kept hgz
                replace r3 := r3.kept hgz
                replace r4 := r4.kept hgz
                replace hk := hk.kept hgz
                replace hr7 := hr7.kept hgz
                replace hr8 := hr8.kept hgz
                replace hother := keep_of hother hgz
                replace hgW := grown_same hgW hgz
                clear hgz hbit1 hbit2
                obtain ⟨U, hU⟩ : ∃ U, U = keyL x1 := ⟨_, rfl⟩
                have hUl : Hid (U.length = 32) := by rw [hU]; exact tagL_len _ _
                have hkeyU := fun w' (h : Laid2 w') => Key_any x1 hyl.out w' h
                rw [← hU] at hkeyU
                obtain ⟨b1, hb1⟩ : ∃ b, b = (Y1 == X) := ⟨_, rfl⟩
                obtain ⟨b2, hb2⟩ : ∃ b, b = (Y2 == X) := ⟨_, rfl⟩
                obtain ⟨b3, hb3⟩ : ∃ b, b = (X == U) := ⟨_, rfl⟩
                have hver2 := fun w' (h : wr.grownBy w' none) => Verify_any X hXl.out A8 L2 c8 g1 c1 g2 c2 _ _ (openF_len x0 L1) (shutF_len x0 L1) w' (hk.kept h) (hr8.kept h) hLb2 (r1.kept h) (r2.kept h)
                have hver1 := fun w' (h : wr.grownBy w' none) => Verify_any X hXl.out A7 L1 c7 g3 c3 g4 c4 _ _ hf3 hf4 w' (hk.kept h) (hr7.kept h) hLb1 (r3.kept h) (r4.kept h)
                have hver3 := fun w' (h : wr.grownBy w' none) => Verify_any U hUl.out A7 L1 c7 g1 c1 g2 c2 _ _ (openF_len x0 L1) (shutF_len x0 L1) w' (hk.kept h) (hr7.kept h) hLb1 (r1.kept h) (r2.kept h)
                rw [← hY2.out, ← hb2] at hver2
                rw [← hY1.out, ← hb1] at hver1
                rw [whoF_sign, ← HX.out, ← hb3] at hver3
                have he2 : ∀ w, (binOp .eql 23 (.agg (Y2.map bv).toArray) (.agg (X.map bv).toArray)).run Tryd.prog w = .ok (.bool b2) w := fun w => by rw [eql_hash _ _ hYl2.out hXl.out w, ← hb2]
                have he1 : ∀ w, (binOp .eql 23 (.agg (Y1.map bv).toArray) (.agg (X.map bv).toArray)).run Tryd.prog w = .ok (.bool b1) w := fun w => by rw [eql_hash _ _ hYl1.out hXl.out w, ← hb1]
                have he3 : ∀ w, (binOp .eql 23 (.agg (U.map bv).toArray) (.agg (X.map bv).toArray)).run Tryd.prog w = .ok (.bool b3) w := fun w => by rw [eql_hash _ _ hUl.out hXl.out w, hb3, beq_flip]
                have hS2 : sm = true → b2 = true := fun h => by rw [hb2, hS h, beq_self_eq_true]
                clear hS hU hb1 hb2 hb3 hY1 hY2 HX
                cases sm
                · clear hS2
                  refine wp_region_gc (al := ugAl) 43 (N := 176) (S := ugS) (die := ugDie) (own := ugOwn) (F := ugF x1 X U Y1 Y2 L1 L2 A7 A8 c7 c8 g1 c1 g2 c2 g3 c3 g4 c4 b1 b2 b3) (by kernel_rfl) (Nat.le_of_ble_eq_true (by kernel_rfl)) (fun h => absurd (show 43 < 43 from h) (Nat.lt_irrefl _)) (fun h => absurd (show 43 < 43 from h) (Nat.lt_irrefl _)) (by kernel_rfl) (by kernel_rfl) (Nat.le_of_ble_eq_true (by kernel_rfl)) (ugF_lasts x1 X U Y1 Y2 L1 L2 A7 A8 c7 c8 g1 c1 g2 c2 g3 c3 g4 c4 b1 b2 b3) ?_ ?_
                  · intro i o L' a w K hi ho hg hLi hout hpre houter hitem hap' h1 h2 h3 h4
                    have hcases : i = 0 ∨ i = 1 ∨ i = 2 ∨ i = 3 ∨ i = 4 ∨ i = 5 ∨ i = 6 ∨ i = 7 ∨ i = 8 ∨ i = 9 ∨ i = 10 ∨ i = 11 ∨ i = 12 ∨ i = 13 ∨ i = 14 ∨ i = 15 ∨ i = 16 ∨ i = 17 ∨ i = 18 ∨ i = 19 ∨ i = 20 ∨ i = 21 ∨ i = 22 ∨ i = 23 ∨ i = 24 ∨ i = 25 ∨ i = 26 ∨ i = 27 ∨ i = 28 ∨ i = 29 ∨ i = 30 ∨ i = 31 ∨ i = 32 ∨ i = 33 ∨ i = 34 ∨ i = 35 ∨ i = 36 ∨ i = 37 ∨ i = 38 ∨ i = 39 ∨ i = 40 ∨ i = 41 ∨ i = 42 := by omega
                    rcases hcases with rfl | rfl | rfl | rfl | rfl | rfl | rfl | rfl | rfl | rfl | rfl | rfl | rfl | rfl | rfl | rfl | rfl | rfl | rfl | rfl | rfl | rfl | rfl | rfl | rfl | rfl | rfl | rfl | rfl | rfl | rfl | rfl | rfl | rfl | rfl | rfl | rfl | rfl | rfl | rfl | rfl | rfl | rfl
                    · cases (show some _ = some o from ho)
                      refine .inl ?_
                      exact ⟨rfl, wp_load_row 23 _ rfl _ (houter _ rfl) _ (X.map bv).toArray (0, 0) _ (keep_of h17 hg) Tryd.underlying23 rfl (hashV_size _ (hXl.out)) (h1 ⟨_, rfl⟩ _ _ (grown_refl _ none) rfl (nobl (blocks_bytes _)) (FreshB.none (blocks_bytes _)))⟩
                    · cases (show some _ = some o from ho)
                      refine .inl ?_
                      exact ⟨rfl, wp_move rfl (h1 ⟨_, rfl⟩ _ _ (grown_refl _ none) (houter _ rfl) (by rw [houter _ rfl]; exact nobl rfl) (by rw [houter _ rfl]; exact FreshB.none rfl))⟩
                    · cases (show some _ = some o from ho)
                      refine .inl ?_
                      exact ⟨rfl, wp_load_row 28 _ rfl _ (houter _ rfl) _ #[.slice (some ⟨g1, 0, none⟩) 32 c1, .slice (some ⟨g2, 0, none⟩) 32 c2] (0, 0) _ (keep_of h18 hg) Tryd.underlying28 rfl (size_one) (h1 ⟨_, rfl⟩ _ _ (grown_refl _ none) rfl (nobl rfl) (FreshB.none rfl))⟩
                    · cases (show some _ = some o from ho)
                      refine .inl ?_
                      have x134 : a.eval (.tmp 134) = (.agg (X.map bv).toArray) := hitem 0 (by decide) ⟨hpre 0 rfl, hout _ (by decide)⟩
                      have x135 : a.eval (.tmp 135) = .slice A8 L2.length c8 := hitem 1 (by decide) ⟨hpre 1 rfl, hout _ (by decide)⟩
                      have x136 : a.eval (.tmp 136) = (.agg #[.slice (some ⟨g1, 0, none⟩) 32 c1, .slice (some ⟨g2, 0, none⟩) 32 c2]) := hitem 2 (by decide) ⟨hpre 2 rfl, hout _ (by decide)⟩
                      refine ⟨rfl, wp_call rfl Tryd.func11 (by kernel_rfl) (by kernel_rfl) (args := #[(.agg (X.map bv).toArray), .slice A8 L2.length c8, (.agg #[.slice (some ⟨g1, 0, none⟩) 32 c1, .slice (some ⟨g2, 0, none⟩) 32 c2])]) (by simp [x134, x135, x136]) ((hver2 w hg).mono ?_)⟩
                      rintro e w' ⟨rfl, hg'⟩
                      exact ⟨_, rfl, h1 ⟨_, rfl⟩ _ _ hg' rfl (nobl rfl) (FreshB.none rfl)⟩
                    · cases (show some _ = some o from ho)
                      refine .inl ?_
                      exact ⟨rfl, wp_load_row 23 _ rfl _ (houter _ rfl) _ (Y2.map bv).toArray (0, 0) _ (keep_of h22 hg) Tryd.underlying23 rfl (hashV_size _ (hYl2.out)) (h1 ⟨_, rfl⟩ _ _ (grown_refl _ none) rfl (nobl (blocks_bytes _)) (FreshB.none (blocks_bytes _)))⟩
                    · cases (show some _ = some o from ho)
                      refine .inl ?_
                      exact ⟨rfl, wp_load_row 23 _ rfl _ (houter _ rfl) _ (X.map bv).toArray (0, 0) _ (keep_of h17 hg) Tryd.underlying23 rfl (hashV_size _ (hXl.out)) (h1 ⟨_, rfl⟩ _ _ (grown_refl _ none) rfl (nobl (blocks_bytes _)) (FreshB.none (blocks_bytes _)))⟩
                    · cases (show some _ = some o from ho)
                      refine .inl ?_
                      exact ⟨rfl, wp_bin rfl (hitem 4 (by decide) ⟨hpre 4 rfl, hout _ (by decide)⟩) (hitem 5 (by decide) ⟨hpre 5 rfl, hout _ (by decide)⟩) (guard_hash _ _ _ _ _) (he2 _) (h1 ⟨_, rfl⟩ _ _ (grown_refl _ none) rfl (nobl rfl) (FreshB.none rfl))⟩
                    · cases (show some _ = some o from ho)
                      refine .inl ?_
                      exact ⟨rfl, wp_bin rfl (hitem 3 (by decide) ⟨hpre 3 rfl, hout _ (by decide)⟩) (hitem 6 (by decide) ⟨hpre 6 rfl, hout _ (by decide)⟩) (guard_bool _ _ _ _ _) (eqB_true _ _) (h1 ⟨_, rfl⟩ _ _ (grown_refl _ none) rfl (nobl rfl) (FreshB.none rfl))⟩
                    · cases (show some _ = some o from ho)
                      refine .inl ?_
                      have hx := hitem 7 (by decide) ⟨hpre 7 rfl, hout _ (by decide)⟩
                      exact ⟨rfl, wp_move rfl (h1 ⟨_, rfl⟩ _ _ (grown_refl _ none) hx (by rw [show a.eval (.tmp 141) = .bool true from hx]; exact nobl rfl) (by rw [show a.eval (.tmp 141) = .bool true from hx]; exact FreshB.none rfl))⟩
                    · cases (show some _ = some o from ho)
                      refine .inl ?_
                      exact ⟨wanted_of (j := 8) rfl rfl (hitem 8 (by decide) ⟨hpre 8 rfl, hout _ (by decide)⟩), wp_move rfl (h1 ⟨_, rfl⟩ _ _ (grown_refl _ none) (houter _ rfl) (by rw [houter _ rfl]; exact nobl rfl) (by rw [houter _ rfl]; exact FreshB.none rfl))⟩
                    · cases (show some _ = some o from ho)
                      refine .inl ?_
                      exact ⟨wanted_of (j := 8) rfl rfl (hitem 8 (by decide) ⟨hpre 8 rfl, hout _ (by decide)⟩), wp_not rfl (hitem 9 (by decide) ⟨hpre 9 rfl, hout _ (by decide)⟩) (h1 ⟨_, rfl⟩ _ _ (grown_refl _ none) rfl (nobl rfl) (FreshB.none rfl))⟩
                    · cases (show some _ = some o from ho)
                      refine .inl ?_
                      have hx := hitem 10 (by decide) ⟨hpre 10 rfl, hout _ (by decide)⟩
                      exact ⟨wanted_of (j := 8) rfl rfl (hitem 8 (by decide) ⟨hpre 8 rfl, hout _ (by decide)⟩), wp_move rfl (h1 ⟨_, rfl⟩ _ _ (grown_refl _ none) hx (by rw [show a.eval (.tmp 144) = .bool true from hx]; exact nobl rfl) (by rw [show a.eval (.tmp 144) = .bool true from hx]; exact FreshB.none rfl))⟩
                    · cases (show some _ = some o from ho)
                      exact .inr ⟨unwanted_false (j := 11) rfl rfl (hitem 11 (by decide) ⟨hpre 11 rfl, hout _ (by decide)⟩), h1 ⟨_, rfl⟩ _ _ (grown_refl _ none) rfl (nobl rfl) (FreshB.none rfl)⟩
                    · cases (show some _ = some o from ho)
                      exact .inr ⟨unwanted_false (j := 11) rfl rfl (hitem 11 (by decide) ⟨hpre 11 rfl, hout _ (by decide)⟩), h1 ⟨_, rfl⟩ _ _ (grown_refl _ none) rfl (nobl rfl) (FreshB.none rfl)⟩
                    · cases (show some _ = some o from ho)
                      exact .inr ⟨unwanted_false (j := 11) rfl rfl (hitem 11 (by decide) ⟨hpre 11 rfl, hout _ (by decide)⟩), h1 ⟨_, rfl⟩ _ _ (grown_refl _ none) rfl (nobl rfl) (FreshB.none rfl)⟩
                    · cases (show some _ = some o from ho)
                      refine .inl ?_
                      have hc := hitem 11 (by decide) ⟨hpre 11 rfl, hout _ (by decide)⟩
                      exact ⟨wanted_of (j := 8) rfl rfl (hitem 8 (by decide) ⟨hpre 8 rfl, hout _ (by decide)⟩), wp_pick rfl hc (h1 ⟨_, rfl⟩ _ _ (grown_refl _ none) rfl (nobl rfl) (FreshB.none rfl))⟩
                    · cases (show some _ = some o from ho)
                      refine .inl ?_
                      have hc := hitem 8 (by decide) ⟨hpre 8 rfl, hout _ (by decide)⟩
                      have hx := hitem 15 (by decide) ⟨hpre 15 rfl, hout _ (by decide)⟩
                      exact ⟨rfl, wp_pick rfl hc (h1 ⟨_, rfl⟩ _ _ (grown_refl _ none) hx (by rw [show a.eval (.tmp 149) = .bool true from hx]; exact nobl rfl) (by rw [show a.eval (.tmp 149) = .bool true from hx]; exact FreshB.none rfl))⟩
                    · cases (show some _ = some o from ho)
                      refine .inl ?_
                      have hx := hitem 16 (by decide) ⟨hpre 16 rfl, hout _ (by decide)⟩
                      exact ⟨rfl, wp_move rfl (h1 ⟨_, rfl⟩ _ _ (grown_refl _ none) hx (by rw [show a.eval (.tmp 150) = .bool true from hx]; exact nobl rfl) (by rw [show a.eval (.tmp 150) = .bool true from hx]; exact FreshB.none rfl))⟩
                    · cases (show some _ = some o from ho)
                      refine .inl ?_
                      exact ⟨wanted_of (j := 17) rfl rfl (hitem 17 (by decide) ⟨hpre 17 rfl, hout _ (by decide)⟩), wp_load_row 23 _ rfl _ (houter _ rfl) _ (X.map bv).toArray (0, 0) _ (keep_of h17 hg) Tryd.underlying23 rfl (hashV_size _ (hXl.out)) (h1 ⟨_, rfl⟩ _ _ (grown_refl _ none) rfl (nobl (blocks_bytes _)) (FreshB.none (blocks_bytes _)))⟩
                    · cases (show some _ = some o from ho)
                      refine .inl ?_
                      exact ⟨wanted_of (j := 17) rfl rfl (hitem 17 (by decide) ⟨hpre 17 rfl, hout _ (by decide)⟩), wp_move rfl (h1 ⟨_, rfl⟩ _ _ (grown_refl _ none) (houter _ rfl) (by rw [houter _ rfl]; exact nobl rfl) (by rw [houter _ rfl]; exact FreshB.none rfl))⟩
                    · cases (show some _ = some o from ho)
                      refine .inl ?_
                      exact ⟨wanted_of (j := 17) rfl rfl (hitem 17 (by decide) ⟨hpre 17 rfl, hout _ (by decide)⟩), wp_load_row 28 _ rfl _ (houter _ rfl) _ #[.slice (some ⟨g3, 0, none⟩) 32 c3, .slice (some ⟨g4, 0, none⟩) 32 c4] (0, 0) _ (keep_of h19 hg) Tryd.underlying28 rfl (size_one) (h1 ⟨_, rfl⟩ _ _ (grown_refl _ none) rfl (nobl rfl) (FreshB.none rfl))⟩
                    · cases (show some _ = some o from ho)
                      refine .inl ?_
                      have x152 : a.eval (.tmp 152) = (.agg (X.map bv).toArray) := hitem 18 (by decide) ⟨hpre 18 rfl, hout _ (by decide)⟩
                      have x153 : a.eval (.tmp 153) = .slice A7 L1.length c7 := hitem 19 (by decide) ⟨hpre 19 rfl, hout _ (by decide)⟩
                      have x154 : a.eval (.tmp 154) = (.agg #[.slice (some ⟨g3, 0, none⟩) 32 c3, .slice (some ⟨g4, 0, none⟩) 32 c4]) := hitem 20 (by decide) ⟨hpre 20 rfl, hout _ (by decide)⟩
                      refine ⟨wanted_of (j := 17) rfl rfl (hitem 17 (by decide) ⟨hpre 17 rfl, hout _ (by decide)⟩), wp_call rfl Tryd.func11 (by kernel_rfl) (by kernel_rfl) (args := #[(.agg (X.map bv).toArray), .slice A7 L1.length c7, (.agg #[.slice (some ⟨g3, 0, none⟩) 32 c3, .slice (some ⟨g4, 0, none⟩) 32 c4])]) (by simp [x152, x153, x154]) ((hver1 w hg).mono ?_)⟩
                      rintro e w' ⟨rfl, hg'⟩
                      exact ⟨_, rfl, h1 ⟨_, rfl⟩ _ _ hg' rfl (nobl rfl) (FreshB.none rfl)⟩
                    · cases (show some _ = some o from ho)
                      refine .inl ?_
                      exact ⟨wanted_of (j := 17) rfl rfl (hitem 17 (by decide) ⟨hpre 17 rfl, hout _ (by decide)⟩), wp_load_row 23 _ rfl _ (houter _ rfl) _ (Y1.map bv).toArray (0, 0) _ (keep_of h24 hg) Tryd.underlying23 rfl (hashV_size _ (hYl1.out)) (h1 ⟨_, rfl⟩ _ _ (grown_refl _ none) rfl (nobl (blocks_bytes _)) (FreshB.none (blocks_bytes _)))⟩
                    · cases (show some _ = some o from ho)
                      refine .inl ?_
                      exact ⟨wanted_of (j := 17) rfl rfl (hitem 17 (by decide) ⟨hpre 17 rfl, hout _ (by decide)⟩), wp_load_row 23 _ rfl _ (houter _ rfl) _ (X.map bv).toArray (0, 0) _ (keep_of h17 hg) Tryd.underlying23 rfl (hashV_size _ (hXl.out)) (h1 ⟨_, rfl⟩ _ _ (grown_refl _ none) rfl (nobl (blocks_bytes _)) (FreshB.none (blocks_bytes _)))⟩
                    · cases (show some _ = some o from ho)
                      refine .inl ?_
                      exact ⟨wanted_of (j := 17) rfl rfl (hitem 17 (by decide) ⟨hpre 17 rfl, hout _ (by decide)⟩), wp_bin rfl (hitem 22 (by decide) ⟨hpre 22 rfl, hout _ (by decide)⟩) (hitem 23 (by decide) ⟨hpre 23 rfl, hout _ (by decide)⟩) (guard_hash _ _ _ _ _) (he1 _) (h1 ⟨_, rfl⟩ _ _ (grown_refl _ none) rfl (nobl rfl) (FreshB.none rfl))⟩
                    · cases (show some _ = some o from ho)
                      refine .inl ?_
                      exact ⟨wanted_of (j := 17) rfl rfl (hitem 17 (by decide) ⟨hpre 17 rfl, hout _ (by decide)⟩), wp_bin rfl (hitem 21 (by decide) ⟨hpre 21 rfl, hout _ (by decide)⟩) (hitem 24 (by decide) ⟨hpre 24 rfl, hout _ (by decide)⟩) (guard_bool _ _ _ _ _) (eqB_true _ _) (h1 ⟨_, rfl⟩ _ _ (grown_refl _ none) rfl (nobl rfl) (FreshB.none rfl))⟩
                    · cases (show some _ = some o from ho)
                      refine .inl ?_
                      have hc := hitem 17 (by decide) ⟨hpre 17 rfl, hout _ (by decide)⟩
                      have hx := hitem 25 (by decide) ⟨hpre 25 rfl, hout _ (by decide)⟩
                      exact ⟨rfl, wp_pick rfl hc (h1 ⟨_, rfl⟩ _ _ (grown_refl _ none) hx (by rw [show a.eval (.tmp 159) = .bool true from hx]; exact nobl rfl) (by rw [show a.eval (.tmp 159) = .bool true from hx]; exact FreshB.none rfl))⟩
                    · cases (show some _ = some o from ho)
                      refine .inl ?_
                      have hx := hitem 26 (by decide) ⟨hpre 26 rfl, hout _ (by decide)⟩
                      exact ⟨rfl, wp_move rfl (h1 ⟨_, rfl⟩ _ _ (grown_refl _ none) hx (by rw [show a.eval (.tmp 160) = .bool true from hx]; exact nobl rfl) (by rw [show a.eval (.tmp 160) = .bool true from hx]; exact FreshB.none rfl))⟩
                    · cases (show some _ = some o from ho)
                      refine .inl ?_
                      exact ⟨wanted_of (j := 27) rfl rfl (hitem 27 (by decide) ⟨hpre 27 rfl, hout _ (by decide)⟩), wp_load_row 23 _ rfl _ (houter _ rfl) _ (x1.map bv).toArray (0, 0) _ (keep_of hother hg) Tryd.underlying23 rfl (hashV_size _ (hyl.out)) (h1 ⟨_, rfl⟩ _ _ (grown_refl _ none) rfl (nobl (blocks_bytes _)) (FreshB.none (blocks_bytes _)))⟩
                    · cases (show some _ = some o from ho)
                      refine .inl ?_
                      have x162 : a.eval (.tmp 162) = (.agg (x1.map bv).toArray) := hitem 28 (by decide) ⟨hpre 28 rfl, hout _ (by decide)⟩
                      refine ⟨wanted_of (j := 27) rfl rfl (hitem 27 (by decide) ⟨hpre 27 rfl, hout _ (by decide)⟩), wp_call rfl Tryd.func9 (by kernel_rfl) (by kernel_rfl) (args := #[(.agg (x1.map bv).toArray)]) (by simp [x162]) ((hkeyU w (hk.kept hg)).mono ?_)⟩
                      rintro e w' ⟨rfl, hg'⟩
                      exact ⟨_, rfl, h1 ⟨_, rfl⟩ _ _ hg' rfl (nobl (blocks_bytes _)) (FreshB.none (blocks_bytes _))⟩
                    · cases (show some _ = some o from ho)
                      refine .inl ?_
                      exact ⟨wanted_of (j := 27) rfl rfl (hitem 27 (by decide) ⟨hpre 27 rfl, hout _ (by decide)⟩), wp_move rfl (h1 ⟨_, rfl⟩ _ _ (grown_refl _ none) (houter _ rfl) (by rw [houter _ rfl]; exact nobl rfl) (by rw [houter _ rfl]; exact FreshB.none rfl))⟩
                    · cases (show some _ = some o from ho)
                      refine .inl ?_
                      exact ⟨wanted_of (j := 27) rfl rfl (hitem 27 (by decide) ⟨hpre 27 rfl, hout _ (by decide)⟩), wp_load_row 28 _ rfl _ (houter _ rfl) _ #[.slice (some ⟨g1, 0, none⟩) 32 c1, .slice (some ⟨g2, 0, none⟩) 32 c2] (0, 0) _ (keep_of h18 hg) Tryd.underlying28 rfl (size_one) (h1 ⟨_, rfl⟩ _ _ (grown_refl _ none) rfl (nobl rfl) (FreshB.none rfl))⟩
                    · cases (show some _ = some o from ho)
                      refine .inl ?_
                      have x163 : a.eval (.tmp 163) = (.agg (U.map bv).toArray) := hitem 29 (by decide) ⟨hpre 29 rfl, hout _ (by decide)⟩
                      have x164 : a.eval (.tmp 164) = .slice A7 L1.length c7 := hitem 30 (by decide) ⟨hpre 30 rfl, hout _ (by decide)⟩
                      have x165 : a.eval (.tmp 165) = (.agg #[.slice (some ⟨g1, 0, none⟩) 32 c1, .slice (some ⟨g2, 0, none⟩) 32 c2]) := hitem 31 (by decide) ⟨hpre 31 rfl, hout _ (by decide)⟩
                      refine ⟨wanted_of (j := 27) rfl rfl (hitem 27 (by decide) ⟨hpre 27 rfl, hout _ (by decide)⟩), wp_call rfl Tryd.func11 (by kernel_rfl) (by kernel_rfl) (args := #[(.agg (U.map bv).toArray), .slice A7 L1.length c7, (.agg #[.slice (some ⟨g1, 0, none⟩) 32 c1, .slice (some ⟨g2, 0, none⟩) 32 c2])]) (by simp [x163, x164, x165]) ((hver3 w hg).mono ?_)⟩
                      rintro e w' ⟨rfl, hg'⟩
                      exact ⟨_, rfl, h1 ⟨_, rfl⟩ _ _ hg' rfl (nobl rfl) (FreshB.none rfl)⟩
                    · cases (show some _ = some o from ho)
                      refine .inl ?_
                      exact ⟨wanted_of (j := 27) rfl rfl (hitem 27 (by decide) ⟨hpre 27 rfl, hout _ (by decide)⟩), wp_load_row 23 _ rfl _ (houter _ rfl) _ (x1.map bv).toArray (0, 0) _ (keep_of hother hg) Tryd.underlying23 rfl (hashV_size _ (hyl.out)) (h1 ⟨_, rfl⟩ _ _ (grown_refl _ none) rfl (nobl (blocks_bytes _)) (FreshB.none (blocks_bytes _)))⟩
                    · cases (show some _ = some o from ho)
                      refine .inl ?_
                      have x167 : a.eval (.tmp 167) = (.agg (x1.map bv).toArray) := hitem 33 (by decide) ⟨hpre 33 rfl, hout _ (by decide)⟩
                      refine ⟨wanted_of (j := 27) rfl rfl (hitem 27 (by decide) ⟨hpre 27 rfl, hout _ (by decide)⟩), wp_call rfl Tryd.func9 (by kernel_rfl) (by kernel_rfl) (args := #[(.agg (x1.map bv).toArray)]) (by simp [x167]) ((hkeyU w (hk.kept hg)).mono ?_)⟩
                      rintro e w' ⟨rfl, hg'⟩
                      exact ⟨_, rfl, h1 ⟨_, rfl⟩ _ _ hg' rfl (nobl (blocks_bytes _)) (FreshB.none (blocks_bytes _))⟩
                    · cases (show some _ = some o from ho)
                      refine .inl ?_
                      exact ⟨wanted_of (j := 27) rfl rfl (hitem 27 (by decide) ⟨hpre 27 rfl, hout _ (by decide)⟩), wp_load_row 23 _ rfl _ (houter _ rfl) _ (X.map bv).toArray (0, 0) _ (keep_of h17 hg) Tryd.underlying23 rfl (hashV_size _ (hXl.out)) (h1 ⟨_, rfl⟩ _ _ (grown_refl _ none) rfl (nobl (blocks_bytes _)) (FreshB.none (blocks_bytes _)))⟩
                    · cases (show some _ = some o from ho)
                      refine .inl ?_
                      exact ⟨wanted_of (j := 27) rfl rfl (hitem 27 (by decide) ⟨hpre 27 rfl, hout _ (by decide)⟩), wp_bin rfl (hitem 34 (by decide) ⟨hpre 34 rfl, hout _ (by decide)⟩) (hitem 35 (by decide) ⟨hpre 35 rfl, hout _ (by decide)⟩) (guard_hash _ _ _ _ _) (he3 _) (h1 ⟨_, rfl⟩ _ _ (grown_refl _ none) rfl (nobl rfl) (FreshB.none rfl))⟩
                    · cases (show some _ = some o from ho)
                      refine .inl ?_
                      exact ⟨wanted_of (j := 27) rfl rfl (hitem 27 (by decide) ⟨hpre 27 rfl, hout _ (by decide)⟩), wp_bin rfl (hitem 32 (by decide) ⟨hpre 32 rfl, hout _ (by decide)⟩) (hitem 36 (by decide) ⟨hpre 36 rfl, hout _ (by decide)⟩) (guard_bool _ _ _ _ _) (eqB_true _ _) (h1 ⟨_, rfl⟩ _ _ (grown_refl _ none) rfl (nobl rfl) (FreshB.none rfl))⟩
                    · cases (show some _ = some o from ho)
                      refine .inl ?_
                      have hc := hitem 27 (by decide) ⟨hpre 27 rfl, hout _ (by decide)⟩
                      have hx := hitem 37 (by decide) ⟨hpre 37 rfl, hout _ (by decide)⟩
                      exact ⟨rfl, wp_pick rfl hc (h1 ⟨_, rfl⟩ _ _ (grown_refl _ none) hx (by rw [show a.eval (.tmp 171) = .bool true from hx]; exact nobl rfl) (by rw [show a.eval (.tmp 171) = .bool true from hx]; exact FreshB.none rfl))⟩
                    · cases (show some _ = some o from ho)
                      refine .inl ?_
                      have hx := hitem 38 (by decide) ⟨hpre 38 rfl, hout _ (by decide)⟩
                      exact ⟨rfl, wp_move rfl (h1 ⟨_, rfl⟩ _ _ (grown_refl _ none) hx (by rw [show a.eval (.tmp 172) = .bool true from hx]; exact nobl rfl) (by rw [show a.eval (.tmp 172) = .bool true from hx]; exact FreshB.none rfl))⟩
                    · cases (show some _ = some o from ho)
                      refine .inl ?_
                      refine ⟨wanted_of (j := 39) rfl rfl (hitem 39 (by decide) ⟨hpre 39 rfl, hout _ (by decide)⟩), wp_call rfl Tryd.func15 (by kernel_rfl) (by kernel_rfl) (args := #[]) (by simp) ((LamRuns_any w (hk.kept hg)).mono ?_)⟩
                      rintro e w' ⟨rfl, hg'⟩
                      exact ⟨_, rfl, h1 ⟨_, rfl⟩ _ _ hg' rfl (nobl rfl) (FreshB.none rfl)⟩
                    · cases (show some _ = some o from ho)
                      refine .inl ?_
                      have hc := hitem 39 (by decide) ⟨hpre 39 rfl, hout _ (by decide)⟩
                      have hx := hitem 40 (by decide) ⟨hpre 40 rfl, hout _ (by decide)⟩
                      exact ⟨rfl, wp_pick rfl hc (h1 ⟨_, rfl⟩ _ _ (grown_refl _ none) hx (by rw [show a.eval (.tmp 174) = .bool true from hx]; exact nobl rfl) (by rw [show a.eval (.tmp 174) = .bool true from hx]; exact FreshB.none rfl))⟩
                    · cases (show some _ = some o from ho)
                      refine .inl ?_
                      have hx := hitem 41 (by decide) ⟨hpre 41 rfl, hout _ (by decide)⟩
                      exact ⟨rfl, wp_assign rfl (h1 ⟨_, rfl⟩ _ _ (grown_refl _ none) hx (by rw [show a.eval (.tmp 175) = .bool true from hx]; exact nobl rfl) (by rw [show a.eval (.tmp 175) = .bool true from hx]; exact FreshB.none rfl))⟩
                  · intro a wT hgT hend hap ha
                    obtain ⟨f, hf⟩ : ∃ f : Nat → Value, f = fun t => a.tmps.getD t undef := ⟨_, rfl⟩
                    have s14 : f 14 = .bool true := by rw [hf]; exact (hend 42 (by decide) (by decide)).1
                    rw [← hf] at ha
                    clear hend hap
                    clear hf
                    subst ha
                    simp only [fill, ugS, Nat.reduceAdd, Nat.reduceBEq, Bool.or_false, Bool.or_true, cond_true, cond_false, List.drop_succ_cons, List.drop_zero, s14]
                    clear s14
                    go_wp2_with fail
                    go_ret
                    exact ⟨rfl, grown_same hgW hgT⟩
                · obtain rfl := hS2 rfl
                  refine wp_region_gc (al := ufAl) 43 (N := 176) (S := ufS) (die := ufDie) (own := ufOwn) (F := ufF x1 X U Y1 Y2 L1 L2 A7 A8 c7 c8 g1 c1 g2 c2 g3 c3 g4 c4 b1 b3) (by kernel_rfl) (Nat.le_of_ble_eq_true (by kernel_rfl)) (fun h => absurd (show 43 < 43 from h) (Nat.lt_irrefl _)) (fun h => absurd (show 43 < 43 from h) (Nat.lt_irrefl _)) (by kernel_rfl) (by kernel_rfl) (Nat.le_of_ble_eq_true (by kernel_rfl)) (ufF_lasts x1 X U Y1 Y2 L1 L2 A7 A8 c7 c8 g1 c1 g2 c2 g3 c3 g4 c4 b1 b3) ?_ ?_
                  · intro i o L' a w K hi ho hg hLi hout hpre houter hitem hap' h1 h2 h3 h4
                    have hcases : i = 0 ∨ i = 1 ∨ i = 2 ∨ i = 3 ∨ i = 4 ∨ i = 5 ∨ i = 6 ∨ i = 7 ∨ i = 8 ∨ i = 9 ∨ i = 10 ∨ i = 11 ∨ i = 12 ∨ i = 13 ∨ i = 14 ∨ i = 15 ∨ i = 16 ∨ i = 17 ∨ i = 18 ∨ i = 19 ∨ i = 20 ∨ i = 21 ∨ i = 22 ∨ i = 23 ∨ i = 24 ∨ i = 25 ∨ i = 26 ∨ i = 27 ∨ i = 28 ∨ i = 29 ∨ i = 30 ∨ i = 31 ∨ i = 32 ∨ i = 33 ∨ i = 34 ∨ i = 35 ∨ i = 36 ∨ i = 37 ∨ i = 38 ∨ i = 39 ∨ i = 40 ∨ i = 41 ∨ i = 42 := by omega
                    rcases hcases with rfl | rfl | rfl | rfl | rfl | rfl | rfl | rfl | rfl | rfl | rfl | rfl | rfl | rfl | rfl | rfl | rfl | rfl | rfl | rfl | rfl | rfl | rfl | rfl | rfl | rfl | rfl | rfl | rfl | rfl | rfl | rfl | rfl | rfl | rfl | rfl | rfl | rfl | rfl | rfl | rfl | rfl | rfl
                    · cases (show some _ = some o from ho)
                      refine .inl ?_
                      exact ⟨rfl, wp_load_row 23 _ rfl _ (houter _ rfl) _ (X.map bv).toArray (0, 0) _ (keep_of h17 hg) Tryd.underlying23 rfl (hashV_size _ (hXl.out)) (h1 ⟨_, rfl⟩ _ _ (grown_refl _ none) rfl (nobl (blocks_bytes _)) (FreshB.none (blocks_bytes _)))⟩
                    · cases (show some _ = some o from ho)
                      refine .inl ?_
                      exact ⟨rfl, wp_move rfl (h1 ⟨_, rfl⟩ _ _ (grown_refl _ none) (houter _ rfl) (by rw [houter _ rfl]; exact nobl rfl) (by rw [houter _ rfl]; exact FreshB.none rfl))⟩
                    · cases (show some _ = some o from ho)
                      refine .inl ?_
                      exact ⟨rfl, wp_load_row 28 _ rfl _ (houter _ rfl) _ #[.slice (some ⟨g1, 0, none⟩) 32 c1, .slice (some ⟨g2, 0, none⟩) 32 c2] (0, 0) _ (keep_of h18 hg) Tryd.underlying28 rfl (size_one) (h1 ⟨_, rfl⟩ _ _ (grown_refl _ none) rfl (nobl rfl) (FreshB.none rfl))⟩
                    · cases (show some _ = some o from ho)
                      refine .inl ?_
                      have x134 : a.eval (.tmp 134) = (.agg (X.map bv).toArray) := hitem 0 (by decide) ⟨hpre 0 rfl, hout _ (by decide)⟩
                      have x135 : a.eval (.tmp 135) = .slice A8 L2.length c8 := hitem 1 (by decide) ⟨hpre 1 rfl, hout _ (by decide)⟩
                      have x136 : a.eval (.tmp 136) = (.agg #[.slice (some ⟨g1, 0, none⟩) 32 c1, .slice (some ⟨g2, 0, none⟩) 32 c2]) := hitem 2 (by decide) ⟨hpre 2 rfl, hout _ (by decide)⟩
                      refine ⟨rfl, wp_call rfl Tryd.func11 (by kernel_rfl) (by kernel_rfl) (args := #[(.agg (X.map bv).toArray), .slice A8 L2.length c8, (.agg #[.slice (some ⟨g1, 0, none⟩) 32 c1, .slice (some ⟨g2, 0, none⟩) 32 c2])]) (by simp [x134, x135, x136]) ((hver2 w hg).mono ?_)⟩
                      rintro e w' ⟨rfl, hg'⟩
                      exact ⟨_, rfl, h1 ⟨_, rfl⟩ _ _ hg' rfl (nobl rfl) (FreshB.none rfl)⟩
                    · cases (show some _ = some o from ho)
                      refine .inl ?_
                      exact ⟨rfl, wp_load_row 23 _ rfl _ (houter _ rfl) _ (Y2.map bv).toArray (0, 0) _ (keep_of h22 hg) Tryd.underlying23 rfl (hashV_size _ (hYl2.out)) (h1 ⟨_, rfl⟩ _ _ (grown_refl _ none) rfl (nobl (blocks_bytes _)) (FreshB.none (blocks_bytes _)))⟩
                    · cases (show some _ = some o from ho)
                      refine .inl ?_
                      exact ⟨rfl, wp_load_row 23 _ rfl _ (houter _ rfl) _ (X.map bv).toArray (0, 0) _ (keep_of h17 hg) Tryd.underlying23 rfl (hashV_size _ (hXl.out)) (h1 ⟨_, rfl⟩ _ _ (grown_refl _ none) rfl (nobl (blocks_bytes _)) (FreshB.none (blocks_bytes _)))⟩
                    · cases (show some _ = some o from ho)
                      refine .inl ?_
                      exact ⟨rfl, wp_bin rfl (hitem 4 (by decide) ⟨hpre 4 rfl, hout _ (by decide)⟩) (hitem 5 (by decide) ⟨hpre 5 rfl, hout _ (by decide)⟩) (guard_hash _ _ _ _ _) (he2 _) (h1 ⟨_, rfl⟩ _ _ (grown_refl _ none) rfl (nobl rfl) (FreshB.none rfl))⟩
                    · cases (show some _ = some o from ho)
                      refine .inl ?_
                      exact ⟨rfl, wp_bin rfl (hitem 3 (by decide) ⟨hpre 3 rfl, hout _ (by decide)⟩) (hitem 6 (by decide) ⟨hpre 6 rfl, hout _ (by decide)⟩) (guard_bool _ _ _ _ _) (eqB_true _ _) (h1 ⟨_, rfl⟩ _ _ (grown_refl _ none) rfl (nobl rfl) (FreshB.none rfl))⟩
                    · cases (show some _ = some o from ho)
                      refine .inl ?_
                      have hx := hitem 7 (by decide) ⟨hpre 7 rfl, hout _ (by decide)⟩
                      exact ⟨rfl, wp_move rfl (h1 ⟨_, rfl⟩ _ _ (grown_refl _ none) hx (by rw [show a.eval (.tmp 141) = .bool true from hx]; exact nobl rfl) (by rw [show a.eval (.tmp 141) = .bool true from hx]; exact FreshB.none rfl))⟩
                    · cases (show some _ = some o from ho)
                      refine .inl ?_
                      exact ⟨wanted_of (j := 8) rfl rfl (hitem 8 (by decide) ⟨hpre 8 rfl, hout _ (by decide)⟩), wp_move rfl (h1 ⟨_, rfl⟩ _ _ (grown_refl _ none) (houter _ rfl) (by rw [houter _ rfl]; exact nobl rfl) (by rw [houter _ rfl]; exact FreshB.none rfl))⟩
                    · cases (show some _ = some o from ho)
                      refine .inl ?_
                      exact ⟨wanted_of (j := 8) rfl rfl (hitem 8 (by decide) ⟨hpre 8 rfl, hout _ (by decide)⟩), wp_not rfl (hitem 9 (by decide) ⟨hpre 9 rfl, hout _ (by decide)⟩) (h1 ⟨_, rfl⟩ _ _ (grown_refl _ none) rfl (nobl rfl) (FreshB.none rfl))⟩
                    · cases (show some _ = some o from ho)
                      refine .inl ?_
                      have hx := hitem 10 (by decide) ⟨hpre 10 rfl, hout _ (by decide)⟩
                      exact ⟨wanted_of (j := 8) rfl rfl (hitem 8 (by decide) ⟨hpre 8 rfl, hout _ (by decide)⟩), wp_move rfl (h1 ⟨_, rfl⟩ _ _ (grown_refl _ none) hx (by rw [show a.eval (.tmp 144) = .bool false from hx]; exact nobl rfl) (by rw [show a.eval (.tmp 144) = .bool false from hx]; exact FreshB.none rfl))⟩
                    · cases (show some _ = some o from ho)
                      refine .inl ?_
                      exact ⟨wanted_not (j := 11) rfl rfl (hitem 11 (by decide) ⟨hpre 11 rfl, hout _ (by decide)⟩), wp_load_row 23 _ rfl _ (houter _ rfl) _ (Y2.map bv).toArray (0, 0) _ (keep_of h22 hg) Tryd.underlying23 rfl (hashV_size _ (hYl2.out)) (h1 ⟨_, rfl⟩ _ _ (grown_refl _ none) rfl (nobl (blocks_bytes _)) (FreshB.none (blocks_bytes _)))⟩
                    · cases (show some _ = some o from ho)
                      refine .inl ?_
                      exact ⟨wanted_not (j := 11) rfl rfl (hitem 11 (by decide) ⟨hpre 11 rfl, hout _ (by decide)⟩), wp_load_row 23 _ rfl _ (houter _ rfl) _ (X.map bv).toArray (0, 0) _ (keep_of h17 hg) Tryd.underlying23 rfl (hashV_size _ (hXl.out)) (h1 ⟨_, rfl⟩ _ _ (grown_refl _ none) rfl (nobl (blocks_bytes _)) (FreshB.none (blocks_bytes _)))⟩
                    · cases (show some _ = some o from ho)
                      refine .inl ?_
                      exact ⟨wanted_not (j := 11) rfl rfl (hitem 11 (by decide) ⟨hpre 11 rfl, hout _ (by decide)⟩), wp_bin rfl (hitem 12 (by decide) ⟨hpre 12 rfl, hout _ (by decide)⟩) (hitem 13 (by decide) ⟨hpre 13 rfl, hout _ (by decide)⟩) (guard_hash _ _ _ _ _) (he2 _) (h1 ⟨_, rfl⟩ _ _ (grown_refl _ none) rfl (nobl rfl) (FreshB.none rfl))⟩
                    · cases (show some _ = some o from ho)
                      refine .inl ?_
                      have hc := hitem 11 (by decide) ⟨hpre 11 rfl, hout _ (by decide)⟩
                      have hx := hitem 14 (by decide) ⟨hpre 14 rfl, hout _ (by decide)⟩
                      exact ⟨wanted_of (j := 8) rfl rfl (hitem 8 (by decide) ⟨hpre 8 rfl, hout _ (by decide)⟩), wp_pick_no rfl hc (h1 ⟨_, rfl⟩ _ _ (grown_refl _ none) hx (by rw [show a.eval (.tmp 148) = .bool true from hx]; exact nobl rfl) (by rw [show a.eval (.tmp 148) = .bool true from hx]; exact FreshB.none rfl))⟩
                    · cases (show some _ = some o from ho)
                      refine .inl ?_
                      have hc := hitem 8 (by decide) ⟨hpre 8 rfl, hout _ (by decide)⟩
                      have hx := hitem 15 (by decide) ⟨hpre 15 rfl, hout _ (by decide)⟩
                      exact ⟨rfl, wp_pick rfl hc (h1 ⟨_, rfl⟩ _ _ (grown_refl _ none) hx (by rw [show a.eval (.tmp 149) = .bool true from hx]; exact nobl rfl) (by rw [show a.eval (.tmp 149) = .bool true from hx]; exact FreshB.none rfl))⟩
                    · cases (show some _ = some o from ho)
                      refine .inl ?_
                      have hx := hitem 16 (by decide) ⟨hpre 16 rfl, hout _ (by decide)⟩
                      exact ⟨rfl, wp_move rfl (h1 ⟨_, rfl⟩ _ _ (grown_refl _ none) hx (by rw [show a.eval (.tmp 150) = .bool true from hx]; exact nobl rfl) (by rw [show a.eval (.tmp 150) = .bool true from hx]; exact FreshB.none rfl))⟩
                    · cases (show some _ = some o from ho)
                      refine .inl ?_
                      exact ⟨wanted_of (j := 17) rfl rfl (hitem 17 (by decide) ⟨hpre 17 rfl, hout _ (by decide)⟩), wp_load_row 23 _ rfl _ (houter _ rfl) _ (X.map bv).toArray (0, 0) _ (keep_of h17 hg) Tryd.underlying23 rfl (hashV_size _ (hXl.out)) (h1 ⟨_, rfl⟩ _ _ (grown_refl _ none) rfl (nobl (blocks_bytes _)) (FreshB.none (blocks_bytes _)))⟩
                    · cases (show some _ = some o from ho)
                      refine .inl ?_
                      exact ⟨wanted_of (j := 17) rfl rfl (hitem 17 (by decide) ⟨hpre 17 rfl, hout _ (by decide)⟩), wp_move rfl (h1 ⟨_, rfl⟩ _ _ (grown_refl _ none) (houter _ rfl) (by rw [houter _ rfl]; exact nobl rfl) (by rw [houter _ rfl]; exact FreshB.none rfl))⟩
                    · cases (show some _ = some o from ho)
                      refine .inl ?_
                      exact ⟨wanted_of (j := 17) rfl rfl (hitem 17 (by decide) ⟨hpre 17 rfl, hout _ (by decide)⟩), wp_load_row 28 _ rfl _ (houter _ rfl) _ #[.slice (some ⟨g3, 0, none⟩) 32 c3, .slice (some ⟨g4, 0, none⟩) 32 c4] (0, 0) _ (keep_of h19 hg) Tryd.underlying28 rfl (size_one) (h1 ⟨_, rfl⟩ _ _ (grown_refl _ none) rfl (nobl rfl) (FreshB.none rfl))⟩
                    · cases (show some _ = some o from ho)
                      refine .inl ?_
                      have x152 : a.eval (.tmp 152) = (.agg (X.map bv).toArray) := hitem 18 (by decide) ⟨hpre 18 rfl, hout _ (by decide)⟩
                      have x153 : a.eval (.tmp 153) = .slice A7 L1.length c7 := hitem 19 (by decide) ⟨hpre 19 rfl, hout _ (by decide)⟩
                      have x154 : a.eval (.tmp 154) = (.agg #[.slice (some ⟨g3, 0, none⟩) 32 c3, .slice (some ⟨g4, 0, none⟩) 32 c4]) := hitem 20 (by decide) ⟨hpre 20 rfl, hout _ (by decide)⟩
                      refine ⟨wanted_of (j := 17) rfl rfl (hitem 17 (by decide) ⟨hpre 17 rfl, hout _ (by decide)⟩), wp_call rfl Tryd.func11 (by kernel_rfl) (by kernel_rfl) (args := #[(.agg (X.map bv).toArray), .slice A7 L1.length c7, (.agg #[.slice (some ⟨g3, 0, none⟩) 32 c3, .slice (some ⟨g4, 0, none⟩) 32 c4])]) (by simp [x152, x153, x154]) ((hver1 w hg).mono ?_)⟩
                      rintro e w' ⟨rfl, hg'⟩
                      exact ⟨_, rfl, h1 ⟨_, rfl⟩ _ _ hg' rfl (nobl rfl) (FreshB.none rfl)⟩
                    · cases (show some _ = some o from ho)
                      refine .inl ?_
                      exact ⟨wanted_of (j := 17) rfl rfl (hitem 17 (by decide) ⟨hpre 17 rfl, hout _ (by decide)⟩), wp_load_row 23 _ rfl _ (houter _ rfl) _ (Y1.map bv).toArray (0, 0) _ (keep_of h24 hg) Tryd.underlying23 rfl (hashV_size _ (hYl1.out)) (h1 ⟨_, rfl⟩ _ _ (grown_refl _ none) rfl (nobl (blocks_bytes _)) (FreshB.none (blocks_bytes _)))⟩
                    · cases (show some _ = some o from ho)
                      refine .inl ?_
                      exact ⟨wanted_of (j := 17) rfl rfl (hitem 17 (by decide) ⟨hpre 17 rfl, hout _ (by decide)⟩), wp_load_row 23 _ rfl _ (houter _ rfl) _ (X.map bv).toArray (0, 0) _ (keep_of h17 hg) Tryd.underlying23 rfl (hashV_size _ (hXl.out)) (h1 ⟨_, rfl⟩ _ _ (grown_refl _ none) rfl (nobl (blocks_bytes _)) (FreshB.none (blocks_bytes _)))⟩
                    · cases (show some _ = some o from ho)
                      refine .inl ?_
                      exact ⟨wanted_of (j := 17) rfl rfl (hitem 17 (by decide) ⟨hpre 17 rfl, hout _ (by decide)⟩), wp_bin rfl (hitem 22 (by decide) ⟨hpre 22 rfl, hout _ (by decide)⟩) (hitem 23 (by decide) ⟨hpre 23 rfl, hout _ (by decide)⟩) (guard_hash _ _ _ _ _) (he1 _) (h1 ⟨_, rfl⟩ _ _ (grown_refl _ none) rfl (nobl rfl) (FreshB.none rfl))⟩
                    · cases (show some _ = some o from ho)
                      refine .inl ?_
                      exact ⟨wanted_of (j := 17) rfl rfl (hitem 17 (by decide) ⟨hpre 17 rfl, hout _ (by decide)⟩), wp_bin rfl (hitem 21 (by decide) ⟨hpre 21 rfl, hout _ (by decide)⟩) (hitem 24 (by decide) ⟨hpre 24 rfl, hout _ (by decide)⟩) (guard_bool _ _ _ _ _) (eqB_true _ _) (h1 ⟨_, rfl⟩ _ _ (grown_refl _ none) rfl (nobl rfl) (FreshB.none rfl))⟩
                    · cases (show some _ = some o from ho)
                      refine .inl ?_
                      have hc := hitem 17 (by decide) ⟨hpre 17 rfl, hout _ (by decide)⟩
                      have hx := hitem 25 (by decide) ⟨hpre 25 rfl, hout _ (by decide)⟩
                      exact ⟨rfl, wp_pick rfl hc (h1 ⟨_, rfl⟩ _ _ (grown_refl _ none) hx (by rw [show a.eval (.tmp 159) = .bool true from hx]; exact nobl rfl) (by rw [show a.eval (.tmp 159) = .bool true from hx]; exact FreshB.none rfl))⟩
                    · cases (show some _ = some o from ho)
                      refine .inl ?_
                      have hx := hitem 26 (by decide) ⟨hpre 26 rfl, hout _ (by decide)⟩
                      exact ⟨rfl, wp_move rfl (h1 ⟨_, rfl⟩ _ _ (grown_refl _ none) hx (by rw [show a.eval (.tmp 160) = .bool true from hx]; exact nobl rfl) (by rw [show a.eval (.tmp 160) = .bool true from hx]; exact FreshB.none rfl))⟩
                    · cases (show some _ = some o from ho)
                      refine .inl ?_
                      exact ⟨wanted_of (j := 27) rfl rfl (hitem 27 (by decide) ⟨hpre 27 rfl, hout _ (by decide)⟩), wp_load_row 23 _ rfl _ (houter _ rfl) _ (x1.map bv).toArray (0, 0) _ (keep_of hother hg) Tryd.underlying23 rfl (hashV_size _ (hyl.out)) (h1 ⟨_, rfl⟩ _ _ (grown_refl _ none) rfl (nobl (blocks_bytes _)) (FreshB.none (blocks_bytes _)))⟩
                    · cases (show some _ = some o from ho)
                      refine .inl ?_
                      have x162 : a.eval (.tmp 162) = (.agg (x1.map bv).toArray) := hitem 28 (by decide) ⟨hpre 28 rfl, hout _ (by decide)⟩
                      refine ⟨wanted_of (j := 27) rfl rfl (hitem 27 (by decide) ⟨hpre 27 rfl, hout _ (by decide)⟩), wp_call rfl Tryd.func9 (by kernel_rfl) (by kernel_rfl) (args := #[(.agg (x1.map bv).toArray)]) (by simp [x162]) ((hkeyU w (hk.kept hg)).mono ?_)⟩
                      rintro e w' ⟨rfl, hg'⟩
                      exact ⟨_, rfl, h1 ⟨_, rfl⟩ _ _ hg' rfl (nobl (blocks_bytes _)) (FreshB.none (blocks_bytes _))⟩
                    · cases (show some _ = some o from ho)
                      refine .inl ?_
                      exact ⟨wanted_of (j := 27) rfl rfl (hitem 27 (by decide) ⟨hpre 27 rfl, hout _ (by decide)⟩), wp_move rfl (h1 ⟨_, rfl⟩ _ _ (grown_refl _ none) (houter _ rfl) (by rw [houter _ rfl]; exact nobl rfl) (by rw [houter _ rfl]; exact FreshB.none rfl))⟩
                    · cases (show some _ = some o from ho)
                      refine .inl ?_
                      exact ⟨wanted_of (j := 27) rfl rfl (hitem 27 (by decide) ⟨hpre 27 rfl, hout _ (by decide)⟩), wp_load_row 28 _ rfl _ (houter _ rfl) _ #[.slice (some ⟨g1, 0, none⟩) 32 c1, .slice (some ⟨g2, 0, none⟩) 32 c2] (0, 0) _ (keep_of h18 hg) Tryd.underlying28 rfl (size_one) (h1 ⟨_, rfl⟩ _ _ (grown_refl _ none) rfl (nobl rfl) (FreshB.none rfl))⟩
                    · cases (show some _ = some o from ho)
                      refine .inl ?_
                      have x163 : a.eval (.tmp 163) = (.agg (U.map bv).toArray) := hitem 29 (by decide) ⟨hpre 29 rfl, hout _ (by decide)⟩
                      have x164 : a.eval (.tmp 164) = .slice A7 L1.length c7 := hitem 30 (by decide) ⟨hpre 30 rfl, hout _ (by decide)⟩
                      have x165 : a.eval (.tmp 165) = (.agg #[.slice (some ⟨g1, 0, none⟩) 32 c1, .slice (some ⟨g2, 0, none⟩) 32 c2]) := hitem 31 (by decide) ⟨hpre 31 rfl, hout _ (by decide)⟩
                      refine ⟨wanted_of (j := 27) rfl rfl (hitem 27 (by decide) ⟨hpre 27 rfl, hout _ (by decide)⟩), wp_call rfl Tryd.func11 (by kernel_rfl) (by kernel_rfl) (args := #[(.agg (U.map bv).toArray), .slice A7 L1.length c7, (.agg #[.slice (some ⟨g1, 0, none⟩) 32 c1, .slice (some ⟨g2, 0, none⟩) 32 c2])]) (by simp [x163, x164, x165]) ((hver3 w hg).mono ?_)⟩
                      rintro e w' ⟨rfl, hg'⟩
                      exact ⟨_, rfl, h1 ⟨_, rfl⟩ _ _ hg' rfl (nobl rfl) (FreshB.none rfl)⟩
                    · cases (show some _ = some o from ho)
                      refine .inl ?_
                      exact ⟨wanted_of (j := 27) rfl rfl (hitem 27 (by decide) ⟨hpre 27 rfl, hout _ (by decide)⟩), wp_load_row 23 _ rfl _ (houter _ rfl) _ (x1.map bv).toArray (0, 0) _ (keep_of hother hg) Tryd.underlying23 rfl (hashV_size _ (hyl.out)) (h1 ⟨_, rfl⟩ _ _ (grown_refl _ none) rfl (nobl (blocks_bytes _)) (FreshB.none (blocks_bytes _)))⟩
                    · cases (show some _ = some o from ho)
                      refine .inl ?_
                      have x167 : a.eval (.tmp 167) = (.agg (x1.map bv).toArray) := hitem 33 (by decide) ⟨hpre 33 rfl, hout _ (by decide)⟩
                      refine ⟨wanted_of (j := 27) rfl rfl (hitem 27 (by decide) ⟨hpre 27 rfl, hout _ (by decide)⟩), wp_call rfl Tryd.func9 (by kernel_rfl) (by kernel_rfl) (args := #[(.agg (x1.map bv).toArray)]) (by simp [x167]) ((hkeyU w (hk.kept hg)).mono ?_)⟩
                      rintro e w' ⟨rfl, hg'⟩
                      exact ⟨_, rfl, h1 ⟨_, rfl⟩ _ _ hg' rfl (nobl (blocks_bytes _)) (FreshB.none (blocks_bytes _))⟩
                    · cases (show some _ = some o from ho)
                      refine .inl ?_
                      exact ⟨wanted_of (j := 27) rfl rfl (hitem 27 (by decide) ⟨hpre 27 rfl, hout _ (by decide)⟩), wp_load_row 23 _ rfl _ (houter _ rfl) _ (X.map bv).toArray (0, 0) _ (keep_of h17 hg) Tryd.underlying23 rfl (hashV_size _ (hXl.out)) (h1 ⟨_, rfl⟩ _ _ (grown_refl _ none) rfl (nobl (blocks_bytes _)) (FreshB.none (blocks_bytes _)))⟩
                    · cases (show some _ = some o from ho)
                      refine .inl ?_
                      exact ⟨wanted_of (j := 27) rfl rfl (hitem 27 (by decide) ⟨hpre 27 rfl, hout _ (by decide)⟩), wp_bin rfl (hitem 34 (by decide) ⟨hpre 34 rfl, hout _ (by decide)⟩) (hitem 35 (by decide) ⟨hpre 35 rfl, hout _ (by decide)⟩) (guard_hash _ _ _ _ _) (he3 _) (h1 ⟨_, rfl⟩ _ _ (grown_refl _ none) rfl (nobl rfl) (FreshB.none rfl))⟩
                    · cases (show some _ = some o from ho)
                      refine .inl ?_
                      exact ⟨wanted_of (j := 27) rfl rfl (hitem 27 (by decide) ⟨hpre 27 rfl, hout _ (by decide)⟩), wp_bin rfl (hitem 32 (by decide) ⟨hpre 32 rfl, hout _ (by decide)⟩) (hitem 36 (by decide) ⟨hpre 36 rfl, hout _ (by decide)⟩) (guard_bool _ _ _ _ _) (eqB_true _ _) (h1 ⟨_, rfl⟩ _ _ (grown_refl _ none) rfl (nobl rfl) (FreshB.none rfl))⟩
                    · cases (show some _ = some o from ho)
                      refine .inl ?_
                      have hc := hitem 27 (by decide) ⟨hpre 27 rfl, hout _ (by decide)⟩
                      have hx := hitem 37 (by decide) ⟨hpre 37 rfl, hout _ (by decide)⟩
                      exact ⟨rfl, wp_pick rfl hc (h1 ⟨_, rfl⟩ _ _ (grown_refl _ none) hx (by rw [show a.eval (.tmp 171) = .bool true from hx]; exact nobl rfl) (by rw [show a.eval (.tmp 171) = .bool true from hx]; exact FreshB.none rfl))⟩
                    · cases (show some _ = some o from ho)
                      refine .inl ?_
                      have hx := hitem 38 (by decide) ⟨hpre 38 rfl, hout _ (by decide)⟩
                      exact ⟨rfl, wp_move rfl (h1 ⟨_, rfl⟩ _ _ (grown_refl _ none) hx (by rw [show a.eval (.tmp 172) = .bool true from hx]; exact nobl rfl) (by rw [show a.eval (.tmp 172) = .bool true from hx]; exact FreshB.none rfl))⟩
                    · cases (show some _ = some o from ho)
                      refine .inl ?_
                      refine ⟨wanted_of (j := 39) rfl rfl (hitem 39 (by decide) ⟨hpre 39 rfl, hout _ (by decide)⟩), wp_call rfl Tryd.func15 (by kernel_rfl) (by kernel_rfl) (args := #[]) (by simp) ((LamRuns_any w (hk.kept hg)).mono ?_)⟩
                      rintro e w' ⟨rfl, hg'⟩
                      exact ⟨_, rfl, h1 ⟨_, rfl⟩ _ _ hg' rfl (nobl rfl) (FreshB.none rfl)⟩
                    · cases (show some _ = some o from ho)
                      refine .inl ?_
                      have hc := hitem 39 (by decide) ⟨hpre 39 rfl, hout _ (by decide)⟩
                      have hx := hitem 40 (by decide) ⟨hpre 40 rfl, hout _ (by decide)⟩
                      exact ⟨rfl, wp_pick rfl hc (h1 ⟨_, rfl⟩ _ _ (grown_refl _ none) hx (by rw [show a.eval (.tmp 174) = .bool true from hx]; exact nobl rfl) (by rw [show a.eval (.tmp 174) = .bool true from hx]; exact FreshB.none rfl))⟩
                    · cases (show some _ = some o from ho)
                      refine .inl ?_
                      have hx := hitem 41 (by decide) ⟨hpre 41 rfl, hout _ (by decide)⟩
                      exact ⟨rfl, wp_assign rfl (h1 ⟨_, rfl⟩ _ _ (grown_refl _ none) hx (by rw [show a.eval (.tmp 175) = .bool true from hx]; exact nobl rfl) (by rw [show a.eval (.tmp 175) = .bool true from hx]; exact FreshB.none rfl))⟩
                  · intro a wT hgT hend hap ha
                    obtain ⟨f, hf⟩ : ∃ f : Nat → Value, f = fun t => a.tmps.getD t undef := ⟨_, rfl⟩
                    have s14 : f 14 = .bool true := by rw [hf]; exact (hend 42 (by decide) (by decide)).1
                    rw [← hf] at ha
                    clear hend hap
                    clear hf
                    subst ha
                    simp only [fill, ufS, Nat.reduceAdd, Nat.reduceBEq, Bool.or_false, Bool.or_true, cond_true, cond_false, List.drop_succ_cons, List.drop_zero, s14]
                    clear s14
                    go_wp2_with fail
                    go_ret
                    exact ⟨rfl, grown_same hgW hgT⟩
        · obtain ⟨z, hz⟩ := cell_of_take (o := at_ * 32 + by_ / 8) ht3 hOL.out (by omega)
          have ha32 : at_ < 32 := by omega
          have hj := hby
          go_wp2_with fail
          refine wp_region_gb (al := udAl) 15 (N := 176) (S := udS) (die := udDie) (own := udOwn) (F := udF b19 at_ by_ g3 c3 z) (by kernel_rfl) (Nat.le_of_ble_eq_true (by kernel_rfl)) (fun _ => by kernel_rfl) (fun _ => by kernel_rfl) (by kernel_rfl) (by kernel_rfl) (Nat.le_of_ble_eq_true (by kernel_rfl)) (udF_lasts b19 at_ by_ g3 c3 z) ?_ ?_
          · intro i o L' a w K hi ho hg hLi hout hpre houter hitem h1 h2 h3
            have hcases : i = 0 ∨ i = 1 ∨ i = 2 ∨ i = 3 ∨ i = 4 ∨ i = 5 ∨ i = 6 ∨ i = 7 ∨ i = 8 ∨ i = 9 ∨ i = 10 ∨ i = 11 ∨ i = 12 ∨ i = 13 ∨ i = 14 := by omega
            rcases hcases with rfl | rfl | rfl | rfl | rfl | rfl | rfl | rfl | rfl | rfl | rfl | rfl | rfl | rfl | rfl
            · cases (show some _ = some o from ho)
              exact ⟨rfl, wp_field rfl (houter _ rfl) (field_O _ 0 (by omega)) (h1 ⟨_, rfl⟩ _ _ (grown_refl _ none) rfl (nobl rfl) (FreshB.none rfl))⟩
            · cases (show some _ = some o from ho)
              exact ⟨rfl, wp_loadC rfl (hitem 0 (by decide) ⟨hpre 0 rfl, hout _ (by decide)⟩) (load_cell (cell_of_cells (keep_of h19 hg) rfl) Tryd.underlying26 rfl) (h1 ⟨_, rfl⟩ _ _ (grown_refl _ none) rfl (nobl rfl) (FreshB.none rfl))⟩
            · cases (show some _ = some o from ho)
              exact ⟨rfl, wp_move rfl (h1 ⟨_, rfl⟩ _ _ (grown_refl _ none) (houter _ rfl) (by rw [houter _ rfl]; exact nobl rfl) (by rw [houter _ rfl]; exact FreshB.none rfl))⟩
            · cases (show some _ = some o from ho)
              exact ⟨rfl, wp_move rfl (h1 ⟨_, rfl⟩ _ _ (grown_refl _ none) (houter _ rfl) (by rw [houter _ rfl]; exact nobl rfl) (by rw [houter _ rfl]; exact FreshB.none rfl))⟩
            · cases (show some _ = some o from ho)
              exact ⟨rfl, wp_bin rfl (hitem 3 (by decide) ⟨hpre 3 rfl, hout _ (by decide)⟩) rfl (by kernel_rfl) (quo8 _ hj _) (h1 ⟨_, rfl⟩ _ _ (grown_refl _ none) rfl (nobl rfl) (FreshB.none rfl))⟩
            · cases (show some _ = some o from ho)
              exact ⟨rfl, wp_index rfl (hitem 1 (by decide) ⟨hpre 1 rfl, hout _ (by decide)⟩) (hitem 2 (by decide) ⟨hpre 2 rfl, hout _ (by decide)⟩) (index_hs _ _ _ _ ha32 _) (h1 ⟨_, rfl⟩ _ _ (grown_refl _ none) rfl (nobl rfl) (FreshB.none rfl))⟩
            · cases (show some _ = some o from ho)
              exact ⟨rfl, wp_index rfl (hitem 5 (by decide) ⟨hpre 5 rfl, hout _ (by decide)⟩) (hitem 4 (by decide) ⟨hpre 4 rfl, hout _ (by decide)⟩) (idx8 _ _ _ (by omega) _) (h1 ⟨_, rfl⟩ _ _ (grown_refl _ none) rfl (nobl rfl) (FreshB.none rfl))⟩
            · cases (show some _ = some o from ho)
              exact ⟨rfl, wp_loadC rfl (hitem 6 (by decide) ⟨hpre 6 rfl, hout _ (by decide)⟩) (load_cell (cell_of_cells (keep_of hw3 hg) hz) Tryd.underlying5 rfl) (h1 ⟨_, rfl⟩ _ _ (grown_refl _ none) rfl (nobl rfl) (FreshB.none rfl))⟩
            · cases (show some _ = some o from ho)
              exact ⟨rfl, wp_move rfl (h1 ⟨_, rfl⟩ _ _ (grown_refl _ none) (houter _ rfl) (by rw [houter _ rfl]; exact nobl rfl) (by rw [houter _ rfl]; exact FreshB.none rfl))⟩
            · cases (show some _ = some o from ho)
              exact ⟨rfl, wp_bin rfl (hitem 8 (by decide) ⟨hpre 8 rfl, hout _ (by decide)⟩) rfl (by kernel_rfl) (rem8 _ _) (h1 ⟨_, rfl⟩ _ _ (grown_refl _ none) rfl (nobl rfl) (FreshB.none rfl))⟩
            · cases (show some _ = some o from ho)
              exact ⟨rfl, wp_conv rfl (hitem 9 (by decide) ⟨hpre 9 rfl, hout _ (by decide)⟩) (conv8 _ (Nat.mod_lt _ (by decide)) _) (h1 ⟨_, rfl⟩ _ _ (grown_refl _ none) rfl (nobl rfl) (FreshB.none rfl))⟩
            · cases (show some _ = some o from ho)
              exact ⟨rfl, wp_bin rfl rfl (hitem 10 (by decide) ⟨hpre 10 rfl, hout _ (by decide)⟩) (by kernel_rfl) (shl8 _ (Nat.mod_lt _ (by decide)) _) (h1 ⟨_, rfl⟩ _ _ (grown_refl _ none) rfl (nobl rfl) (FreshB.none rfl))⟩
            · cases (show some _ = some o from ho)
              exact ⟨rfl, wp_bin rfl (hitem 7 (by decide) ⟨hpre 7 rfl, hout _ (by decide)⟩) (hitem 11 (by decide) ⟨hpre 11 rfl, hout _ (by decide)⟩) (by kernel_rfl) (xor8 _ _ _) (h1 ⟨_, rfl⟩ _ _ (grown_refl _ none) rfl (nobl rfl) (FreshB.none rfl))⟩
            · cases (show some _ = some o from ho)
              exact ⟨rfl, wp_index rfl (hitem 1 (by decide) ⟨hpre 1 rfl, hout _ (by decide)⟩) (hitem 2 (by decide) ⟨hpre 2 rfl, hout _ (by decide)⟩) (index_hs _ _ _ _ ha32 _) (h1 ⟨_, rfl⟩ _ _ (grown_refl _ none) rfl (nobl rfl) (FreshB.none rfl))⟩
            · cases (show some _ = some o from ho)
              exact ⟨rfl, wp_index rfl (hitem 13 (by decide) ⟨hpre 13 rfl, hout _ (by decide)⟩) (hitem 4 (by decide) ⟨hpre 4 rfl, hout _ (by decide)⟩) (idx8 _ _ _ (by omega) _) (h1 ⟨_, rfl⟩ _ _ (grown_refl _ none) rfl (nobl rfl) (FreshB.none rfl))⟩
          · intro a wT hgT hend hap ha
            obtain ⟨f, hf⟩ : ∃ f : Nat → Value, f = fun t => a.tmps.getD t undef := ⟨_, rfl⟩
            have s90 : f 90 = .int .u8 (((z ^^^ UInt8.ofNat (2 ^ (by_ % 8))).toNat : Nat) : Int) := by rw [hf]; exact (hend 12 (by decide) (by decide)).1
            have s92 : f 92 = .pointer (some ⟨g3, at_ * 32 + by_ / 8, none⟩) := by rw [hf]; exact (hend 14 (by decide) (by decide)).1
            rw [← hf] at ha
            clear hend hap
            clear hf
            subst ha
            simp only [fill, udS, Nat.reduceAdd, Nat.reduceBEq, Bool.or_false, Bool.or_true, cond_true, cond_false, List.drop_succ_cons, List.drop_zero, s90, s92]
            clear s90 s92
            have hcz : wT.cell? ⟨g3, at_ * 32 + by_ / 8, none⟩ = some (.int .u8 (z.toNat : Int)) := cell_of_cells (keep_of hw3 hgT) hz
            have hfz : wT.frozen? ⟨g3, at_ * 32 + by_ / 8, none⟩ = false := frozen_of_row wT _ _ _ _ (keep_of hw3 hgT)
            generalize z ^^^ UInt8.ofNat (2 ^ (by_ % 8)) = z'
            go_upto_region 10 with fail
            have hwN : (wT.setCell ⟨g3, at_ * 32 + by_ / 8, none⟩ (.int .u8 (z'.toNat : Int))).heap[g3]? = some (.cells (cu3.setIfInBounds (at_ * 32 + by_ / 8) (bv z')) 23 (0, 0)) := heap_setCell_to (keep_of hw3 hgT) rfl
            have hwO : (wT.setCell ⟨g3, at_ * 32 + by_ / 8, none⟩ (.int .u8 (z'.toNat : Int))).heap[g4]? = some (.cells cu4 23 (0, 0)) := (Below.heap_setCell _ _ _ _ (Ne.symm n34)).trans (keep_of hw4 hgT)
            have h19D : (wT.setCell ⟨g3, at_ * 32 + by_ / 8, none⟩ (.int .u8 (z'.toNat : Int))).heap[b19]? = some (.cells #[.slice (some ⟨g3, 0, none⟩) 32 c3, .slice (some ⟨g4, 0, none⟩) 32 c4] 28 (0, 0)) := (Below.heap_setCell _ _ _ _ (Ne.symm nn3)).trans (keep_of h19 hgT)
            have hgD : wB.grownBy (wT.setCell ⟨g3, at_ * 32 + by_ / 8, none⟩ (.int .u8 (z'.toNat : Int))) none := grown_set (grown_same hgC hgT) (.inr fg3) _
            have r3 := rd_of_row hwN hz3 hM3 (by rw [Array.size_setIfInBounds]; exact hs3) (set_take ht3 _ z') (by rw [List.length_set]; exact hOL.out)
            have r4 := rd_of_row hwO hz4 hM4 hs4 ht4 hHL.out
            obtain ⟨f3, hf3, e3⟩ := parts_of _ (show (OL.set (at_ * 32 + by_ / 8) z').length = 32 * 32 by rw [List.length_set]; exact hOL.out)
            obtain ⟨f4, hf4, e4⟩ := parts_of _ hHL.out
            rw [e3] at r3
            rw [e4] at r4
            generalize wT.setCell ⟨g3, at_ * 32 + by_ / 8, none⟩ (.int .u8 (z'.toNat : Int)) = D at h19D hgD r3 r4 ⊢
            clear hwN hwO hcz hfz e3 e4 hz hw3 hw4 hgC ht3 ht4 hs3 hs4 hM3 hM4 hz3 hz4 hgT h19
            rw [eOL.out] at r1
            rw [eHL.out] at r2
            replace h17 := keep_of h17 hgD
            replace h18 := keep_of h18 hgD
            replace r1 := r1.kept hgD
            replace r2 := r2.kept hgD
            replace hk := hk.kept hgD
            replace hr7 := hr7.kept hgD
            replace hr8 := hr8.kept hgD
            replace hother := keep_of hother hgD
            replace hgW := grown_same hgW hgD
            clear hgD eOL eHL hseed hcO hcS
            obtain ⟨Y2, hY2⟩ : ∃ Y, Y = whoF L2 (openF x0 L1) (shutF x0 L1) := ⟨_, rfl⟩
            obtain ⟨Y1, hY1⟩ : ∃ Y, Y = whoF L1 f3 f4 := ⟨_, rfl⟩
            have hYl2 : Hid (Y2.length = 32) := by rw [hY2]; exact whoF_len _ _ _
            have hYl1 : Hid (Y1.length = 32) := by rw [hY1]; exact whoF_len _ _ _
            have hwX := RWho_any A8 L2 c8 g1 c1 g2 c2 _ _ (openF_len x0 L1) (shutF_len x0 L1) D hr8 hLb2 r1 r2
            have hwY := fun w' (h : D.grownBy w' none) => RWho_any A7 L1 c7 g3 c3 g4 c4 _ _ hf3 hf4 w' (hr7.kept h) hLb1 (r3.kept h) (r4.kept h)
            rw [← hY2] at hwX
            rw [← hY1] at hwY
            replace hY2 := Lib.hid hY2
            replace hY1 := Lib.hid hY1
            go_upto_region 12 with (first
              | (refine wpList_load_row rfl 28 _ rfl b18 rfl _ #[.slice (some ⟨g1, 0, none⟩) 32 c1, .slice (some ⟨g2, 0, none⟩) 32 c2] (0, 0) _ h18 Tryd.underlying28 rfl size_one ?_)
              | (go_at_call_of 13 (Value.slice A8 L2.length c8); refine hwX.mono ?_; rintro e wX ⟨rfl, hgX⟩)
              | (refine wpList_store_row rfl 23 _ _ rfl (wX.heap.size) (Y2.map bv).toArray rfl rfl 23 _ (alloc_at rfl) (hashV_size Y2 hYl2.out) (by rw [show (Y2.map bv).toArray.size = 32 from by rw [List.size_toArray, List.length_map, hYl2.out]]; rfl) (bv_all' _) ?_; generalize hwV : World.setRow _ _ _ = V; have HWV := new_hash hwV; clear hwV; have hgV : D.grownBy V none := grown_same hgX HWV.2; have h19V := keep_of h19D hgV)
              | (refine wpList_load_row rfl 28 _ rfl b19 rfl _ #[.slice (some ⟨g3, 0, none⟩) 32 c3, .slice (some ⟨g4, 0, none⟩) 32 c4] (0, 0) _ h19V Tryd.underlying28 rfl size_one ?_)
              | (go_at_call_of 13 (Value.slice A7 L1.length c7); refine (hwY _ hgV).mono ?_; rintro e wY ⟨rfl, hgY⟩)
              | (refine wpList_store_row rfl 23 _ _ rfl (wY.heap.size) (Y1.map bv).toArray rfl rfl 23 _ (alloc_at rfl) (hashV_size Y1 hYl1.out) (by rw [show (Y1.map bv).toArray.size = 32 from by rw [List.size_toArray, List.length_map, hYl1.out]]; rfl) (bv_all' _) ?_; generalize hwZ : World.setRow _ _ _ = Z; have HWZ := new_hash hwZ; clear hwZ))
            have gZ : D.grownBy Z none := grown_same hgV (grown_same hgY HWZ.2)
            have h22 : Z.heap[wX.heap.size]? = some (.cells (Y2.map bv).toArray 23 (0, 0)) := keep_of HWV.1 (grown_same hgY HWZ.2)
            have h24 := HWZ.1
            clear HWV HWZ hgX hgY hgV h19V
            generalize wX.heap.size = b22 at h22 ⊢
            generalize wY.heap.size = b24 at h24 ⊢
            replace h17 := keep_of h17 gZ
            replace h18 := keep_of h18 gZ
            have h19 := keep_of h19D gZ
            replace r1 := r1.kept gZ
            replace r2 := r2.kept gZ
            replace r3 := r3.kept gZ
            replace r4 := r4.kept gZ
            replace hk := hk.kept gZ
            replace hr7 := hr7.kept gZ
            replace hr8 := hr8.kept gZ
            replace hother := keep_of hother gZ
            replace hgW := grown_same hgW gZ
            clear gZ h19D hwX hwY
            have hbit1 := fun k (h : k < 256) w' (h1 : Laid2 w') (h2 : RdB w' A7 L1) => Bit_any A7 L1 c7 k w' h1 h2 hLb1 h
            have hbit2 := fun k (h : k < 256) w' (h1 : Laid2 w') (h2 : RdB w' A8 L2) => Bit_any A8 L2 c8 k w' h1 h2 hLb2 h
            go_wp2_with fail
            go_loopw [26, 120] (fun s i wz => ∃ k : Nat, k ≤ 32 ∧ i = .int .i64 k ∧ s = .bool (decide (∀ j, j < k → bitL L1 j = bitL L2 j)) ∧ Z.grownBy wz none) (fun _ i _ => 32 - (intOf i).toNat)
            case atStart => exact ⟨0, by omega, rfl, by rw [decide_eq_true (fun j h => absurd h (Nat.not_lt_zero j))], grown_refl _ _⟩
            case round =>
              obtain ⟨k, hkl, rfl, rfl, hgz⟩ := hrel
              by_cases hlt : k < 32
              · have hlt' : (k : Int) < 32 := by omega
                have hbk1 := hbit1 k (by omega) _ (hk.kept hgz) (hr7.kept hgz)
                have hbk2 := fun w' (h : wr.grownBy w' none) => hbit2 k (by omega) w' (hk.kept (grown_same hgz h)) (hr8.kept (grown_same hgz h))
                have hnx : (∀ j, j < k + 1 → bitL L1 j = bitL L2 j) ↔ (∀ j, j < k → bitL L1 j = bitL L2 j) ∧ bitL L1 k = bitL L2 k :=
                  ⟨fun h => ⟨fun j hj => h j (by omega), h k (by omega)⟩, fun h j hj => by
                    by_cases e : j = k
                    · rw [e]; exact h.2
                    · exact h.1 j (by omega)⟩
                have HN : Hid (decide (∀ j, j < k + 1 → bitL L1 j = bitL L2 j) = (decide (∀ j, j < k → bitL L1 j = bitL L2 j) && decide (bitL L1 k = bitL L2 k))) := by
                  show _ = _
                  rw [← Bool.decide_and]
                  exact decide_eq_decide.2 hnx
                clear hnx hbit1 hbit2
                generalize decide (∀ j, j < k → bitL L1 j = bitL L2 j) = sm at HN ⊢
                generalize bitL L1 k = y1 at hbk1 HN
                generalize bitL L2 k = y2 at hbk2 HN
                cases sm
                · go_wp2_with fail
                  go_roundw
                  case rel => exact ⟨k + 1, by omega, by go_num, by rw [HN.out]; rfl, hgz⟩
                  case measure => simp [intOf]; omega
                · by_cases hy : y1 = y2
                  · subst hy
                    go_wp2_with (first
                      | (go_at_call_of 14 (Value.slice A7 L1.length c7); refine hbk1.mono ?_; rintro e wG ⟨rfl, hgG⟩)
                      | (go_at_call_of 14 (Value.slice A8 L2.length c8); refine (hbk2 _ hgG).mono ?_; rintro e wF ⟨rfl, hgF⟩))
                    go_roundw
                    case rel => exact ⟨k + 1, by omega, by go_num, by rw [HN.out]; simp, grown_same hgz (grown_same hgG hgF)⟩
                    case measure => simp [intOf]; omega
                  · have hy' : ¬ (y1 : Int) = (y2 : Int) := by omega
                    go_wp2_with (first
                      | (go_at_call_of 14 (Value.slice A7 L1.length c7); refine hbk1.mono ?_; rintro e wG ⟨rfl, hgG⟩)
                      | (go_at_call_of 14 (Value.slice A8 L2.length c8); refine (hbk2 _ hgG).mono ?_; rintro e wF ⟨rfl, hgF⟩))
                    go_roundw
                    case rel => exact ⟨k + 1, by omega, by go_num, by rw [HN.out]; simp [hy, hy'], grown_same hgz (grown_same hgG hgF)⟩
                    case measure => simp [intOf]; omega
              · have hkk : k = 32 := by omega
                have hS : decide (∀ j, j < k → bitL L1 j = bitL L2 j) = true → Y2 = X := fun h => by
                  rw [hY2.out, HX.out, ← whoF_sign x0 L1]
                  exact whoF_congr fun i hi => ⟨(of_decide_eq_true h i (by omega)).symm, rfl, rfl⟩
                generalize decide (∀ j, j < k → bitL L1 j = bitL L2 j) = sm at hS ⊢
                subst hkk
                rw [show ((32 : Nat) : Int) = 32 from rfl]
                have HS := Lib.hid hS
                clear hS
                go_upto_region 18 with fail
                have hS := HS.out
                clear HS
                replace h17 := keep_of h17 hgz
                replace h18 := keep_of h18 hgz
                replace h19 := keep_of h19 hgz
                replace h22 := keep_of h22 hgz
                replace h24 := keep_of h24 hgz
                replace r1 := r1.kept hgz
                replace r2 := r2.kept hgz
                replace r3 := r3.kept hgz
                replace r4 := r4.kept hgz
                replace hk := hk.kept hgz
                replace hr7 := hr7.kept hgz
                replace hr8 := hr8.kept hgz
                replace hother := keep_of hother hgz
                replace hgW := grown_same hgW hgz
                clear hgz hbit1 hbit2
                obtain ⟨U, hU⟩ : ∃ U, U = keyL x1 := ⟨_, rfl⟩
                have hUl : Hid (U.length = 32) := by rw [hU]; exact tagL_len _ _
                have hkeyU := fun w' (h : Laid2 w') => Key_any x1 hyl.out w' h
                rw [← hU] at hkeyU
                obtain ⟨b1, hb1⟩ : ∃ b, b = (Y1 == X) := ⟨_, rfl⟩
                obtain ⟨b2, hb2⟩ : ∃ b, b = (Y2 == X) := ⟨_, rfl⟩
                obtain ⟨b3, hb3⟩ : ∃ b, b = (X == U) := ⟨_, rfl⟩
                have hver2 := fun w' (h : wr.grownBy w' none) => Verify_any X hXl.out A8 L2 c8 g1 c1 g2 c2 _ _ (openF_len x0 L1) (shutF_len x0 L1) w' (hk.kept h) (hr8.kept h) hLb2 (r1.kept h) (r2.kept h)
                have hver1 := fun w' (h : wr.grownBy w' none) => Verify_any X hXl.out A7 L1 c7 g3 c3 g4 c4 _ _ hf3 hf4 w' (hk.kept h) (hr7.kept h) hLb1 (r3.kept h) (r4.kept h)
                have hver3 := fun w' (h : wr.grownBy w' none) => Verify_any U hUl.out A7 L1 c7 g1 c1 g2 c2 _ _ (openF_len x0 L1) (shutF_len x0 L1) w' (hk.kept h) (hr7.kept h) hLb1 (r1.kept h) (r2.kept h)
                rw [← hY2.out, ← hb2] at hver2
                rw [← hY1.out, ← hb1] at hver1
                rw [whoF_sign, ← HX.out, ← hb3] at hver3
                have he2 : ∀ w, (binOp .eql 23 (.agg (Y2.map bv).toArray) (.agg (X.map bv).toArray)).run Tryd.prog w = .ok (.bool b2) w := fun w => by rw [eql_hash _ _ hYl2.out hXl.out w, ← hb2]
                have he1 : ∀ w, (binOp .eql 23 (.agg (Y1.map bv).toArray) (.agg (X.map bv).toArray)).run Tryd.prog w = .ok (.bool b1) w := fun w => by rw [eql_hash _ _ hYl1.out hXl.out w, ← hb1]
                have he3 : ∀ w, (binOp .eql 23 (.agg (U.map bv).toArray) (.agg (X.map bv).toArray)).run Tryd.prog w = .ok (.bool b3) w := fun w => by rw [eql_hash _ _ hUl.out hXl.out w, hb3, beq_flip]
                have hS2 : sm = true → b2 = true := fun h => by rw [hb2, hS h, beq_self_eq_true]
                clear hS hU hb1 hb2 hb3 hY1 hY2 HX
                cases sm
                · clear hS2
                  refine wp_region_gc (al := ugAl) 43 (N := 176) (S := ugS) (die := ugDie) (own := ugOwn) (F := ugF x1 X U Y1 Y2 L1 L2 A7 A8 c7 c8 g1 c1 g2 c2 g3 c3 g4 c4 b1 b2 b3) (by kernel_rfl) (Nat.le_of_ble_eq_true (by kernel_rfl)) (fun h => absurd (show 43 < 43 from h) (Nat.lt_irrefl _)) (fun h => absurd (show 43 < 43 from h) (Nat.lt_irrefl _)) (by kernel_rfl) (by kernel_rfl) (Nat.le_of_ble_eq_true (by kernel_rfl)) (ugF_lasts x1 X U Y1 Y2 L1 L2 A7 A8 c7 c8 g1 c1 g2 c2 g3 c3 g4 c4 b1 b2 b3) ?_ ?_
                  · intro i o L' a w K hi ho hg hLi hout hpre houter hitem hap' h1 h2 h3 h4
                    have hcases : i = 0 ∨ i = 1 ∨ i = 2 ∨ i = 3 ∨ i = 4 ∨ i = 5 ∨ i = 6 ∨ i = 7 ∨ i = 8 ∨ i = 9 ∨ i = 10 ∨ i = 11 ∨ i = 12 ∨ i = 13 ∨ i = 14 ∨ i = 15 ∨ i = 16 ∨ i = 17 ∨ i = 18 ∨ i = 19 ∨ i = 20 ∨ i = 21 ∨ i = 22 ∨ i = 23 ∨ i = 24 ∨ i = 25 ∨ i = 26 ∨ i = 27 ∨ i = 28 ∨ i = 29 ∨ i = 30 ∨ i = 31 ∨ i = 32 ∨ i = 33 ∨ i = 34 ∨ i = 35 ∨ i = 36 ∨ i = 37 ∨ i = 38 ∨ i = 39 ∨ i = 40 ∨ i = 41 ∨ i = 42 := by omega
                    rcases hcases with rfl | rfl | rfl | rfl | rfl | rfl | rfl | rfl | rfl | rfl | rfl | rfl | rfl | rfl | rfl | rfl | rfl | rfl | rfl | rfl | rfl | rfl | rfl | rfl | rfl | rfl | rfl | rfl | rfl | rfl | rfl | rfl | rfl | rfl | rfl | rfl | rfl | rfl | rfl | rfl | rfl | rfl | rfl
                    · cases (show some _ = some o from ho)
                      refine .inl ?_
                      exact ⟨rfl, wp_load_row 23 _ rfl _ (houter _ rfl) _ (X.map bv).toArray (0, 0) _ (keep_of h17 hg) Tryd.underlying23 rfl (hashV_size _ (hXl.out)) (h1 ⟨_, rfl⟩ _ _ (grown_refl _ none) rfl (nobl (blocks_bytes _)) (FreshB.none (blocks_bytes _)))⟩
                    · cases (show some _ = some o from ho)
                      refine .inl ?_
                      exact ⟨rfl, wp_move rfl (h1 ⟨_, rfl⟩ _ _ (grown_refl _ none) (houter _ rfl) (by rw [houter _ rfl]; exact nobl rfl) (by rw [houter _ rfl]; exact FreshB.none rfl))⟩
                    · cases (show some _ = some o from ho)
                      refine .inl ?_
                      exact ⟨rfl, wp_load_row 28 _ rfl _ (houter _ rfl) _ #[.slice (some ⟨g1, 0, none⟩) 32 c1, .slice (some ⟨g2, 0, none⟩) 32 c2] (0, 0) _ (keep_of h18 hg) Tryd.underlying28 rfl (size_one) (h1 ⟨_, rfl⟩ _ _ (grown_refl _ none) rfl (nobl rfl) (FreshB.none rfl))⟩
                    · cases (show some _ = some o from ho)
                      refine .inl ?_
                      have x134 : a.eval (.tmp 134) = (.agg (X.map bv).toArray) := hitem 0 (by decide) ⟨hpre 0 rfl, hout _ (by decide)⟩
                      have x135 : a.eval (.tmp 135) = .slice A8 L2.length c8 := hitem 1 (by decide) ⟨hpre 1 rfl, hout _ (by decide)⟩
                      have x136 : a.eval (.tmp 136) = (.agg #[.slice (some ⟨g1, 0, none⟩) 32 c1, .slice (some ⟨g2, 0, none⟩) 32 c2]) := hitem 2 (by decide) ⟨hpre 2 rfl, hout _ (by decide)⟩
                      refine ⟨rfl, wp_call rfl Tryd.func11 (by kernel_rfl) (by kernel_rfl) (args := #[(.agg (X.map bv).toArray), .slice A8 L2.length c8, (.agg #[.slice (some ⟨g1, 0, none⟩) 32 c1, .slice (some ⟨g2, 0, none⟩) 32 c2])]) (by simp [x134, x135, x136]) ((hver2 w hg).mono ?_)⟩
                      rintro e w' ⟨rfl, hg'⟩
                      exact ⟨_, rfl, h1 ⟨_, rfl⟩ _ _ hg' rfl (nobl rfl) (FreshB.none rfl)⟩
                    · cases (show some _ = some o from ho)
                      refine .inl ?_
                      exact ⟨rfl, wp_load_row 23 _ rfl _ (houter _ rfl) _ (Y2.map bv).toArray (0, 0) _ (keep_of h22 hg) Tryd.underlying23 rfl (hashV_size _ (hYl2.out)) (h1 ⟨_, rfl⟩ _ _ (grown_refl _ none) rfl (nobl (blocks_bytes _)) (FreshB.none (blocks_bytes _)))⟩
                    · cases (show some _ = some o from ho)
                      refine .inl ?_
                      exact ⟨rfl, wp_load_row 23 _ rfl _ (houter _ rfl) _ (X.map bv).toArray (0, 0) _ (keep_of h17 hg) Tryd.underlying23 rfl (hashV_size _ (hXl.out)) (h1 ⟨_, rfl⟩ _ _ (grown_refl _ none) rfl (nobl (blocks_bytes _)) (FreshB.none (blocks_bytes _)))⟩
                    · cases (show some _ = some o from ho)
                      refine .inl ?_
                      exact ⟨rfl, wp_bin rfl (hitem 4 (by decide) ⟨hpre 4 rfl, hout _ (by decide)⟩) (hitem 5 (by decide) ⟨hpre 5 rfl, hout _ (by decide)⟩) (guard_hash _ _ _ _ _) (he2 _) (h1 ⟨_, rfl⟩ _ _ (grown_refl _ none) rfl (nobl rfl) (FreshB.none rfl))⟩
                    · cases (show some _ = some o from ho)
                      refine .inl ?_
                      exact ⟨rfl, wp_bin rfl (hitem 3 (by decide) ⟨hpre 3 rfl, hout _ (by decide)⟩) (hitem 6 (by decide) ⟨hpre 6 rfl, hout _ (by decide)⟩) (guard_bool _ _ _ _ _) (eqB_true _ _) (h1 ⟨_, rfl⟩ _ _ (grown_refl _ none) rfl (nobl rfl) (FreshB.none rfl))⟩
                    · cases (show some _ = some o from ho)
                      refine .inl ?_
                      have hx := hitem 7 (by decide) ⟨hpre 7 rfl, hout _ (by decide)⟩
                      exact ⟨rfl, wp_move rfl (h1 ⟨_, rfl⟩ _ _ (grown_refl _ none) hx (by rw [show a.eval (.tmp 141) = .bool true from hx]; exact nobl rfl) (by rw [show a.eval (.tmp 141) = .bool true from hx]; exact FreshB.none rfl))⟩
                    · cases (show some _ = some o from ho)
                      refine .inl ?_
                      exact ⟨wanted_of (j := 8) rfl rfl (hitem 8 (by decide) ⟨hpre 8 rfl, hout _ (by decide)⟩), wp_move rfl (h1 ⟨_, rfl⟩ _ _ (grown_refl _ none) (houter _ rfl) (by rw [houter _ rfl]; exact nobl rfl) (by rw [houter _ rfl]; exact FreshB.none rfl))⟩
                    · cases (show some _ = some o from ho)
                      refine .inl ?_
                      exact ⟨wanted_of (j := 8) rfl rfl (hitem 8 (by decide) ⟨hpre 8 rfl, hout _ (by decide)⟩), wp_not rfl (hitem 9 (by decide) ⟨hpre 9 rfl, hout _ (by decide)⟩) (h1 ⟨_, rfl⟩ _ _ (grown_refl _ none) rfl (nobl rfl) (FreshB.none rfl))⟩
                    · cases (show some _ = some o from ho)
                      refine .inl ?_
                      have hx := hitem 10 (by decide) ⟨hpre 10 rfl, hout _ (by decide)⟩
                      exact ⟨wanted_of (j := 8) rfl rfl (hitem 8 (by decide) ⟨hpre 8 rfl, hout _ (by decide)⟩), wp_move rfl (h1 ⟨_, rfl⟩ _ _ (grown_refl _ none) hx (by rw [show a.eval (.tmp 144) = .bool true from hx]; exact nobl rfl) (by rw [show a.eval (.tmp 144) = .bool true from hx]; exact FreshB.none rfl))⟩
                    · cases (show some _ = some o from ho)
                      exact .inr ⟨unwanted_false (j := 11) rfl rfl (hitem 11 (by decide) ⟨hpre 11 rfl, hout _ (by decide)⟩), h1 ⟨_, rfl⟩ _ _ (grown_refl _ none) rfl (nobl rfl) (FreshB.none rfl)⟩
                    · cases (show some _ = some o from ho)
                      exact .inr ⟨unwanted_false (j := 11) rfl rfl (hitem 11 (by decide) ⟨hpre 11 rfl, hout _ (by decide)⟩), h1 ⟨_, rfl⟩ _ _ (grown_refl _ none) rfl (nobl rfl) (FreshB.none rfl)⟩
                    · cases (show some _ = some o from ho)
                      exact .inr ⟨unwanted_false (j := 11) rfl rfl (hitem 11 (by decide) ⟨hpre 11 rfl, hout _ (by decide)⟩), h1 ⟨_, rfl⟩ _ _ (grown_refl _ none) rfl (nobl rfl) (FreshB.none rfl)⟩
                    · cases (show some _ = some o from ho)
                      refine .inl ?_
                      have hc := hitem 11 (by decide) ⟨hpre 11 rfl, hout _ (by decide)⟩
                      exact ⟨wanted_of (j := 8) rfl rfl (hitem 8 (by decide) ⟨hpre 8 rfl, hout _ (by decide)⟩), wp_pick rfl hc (h1 ⟨_, rfl⟩ _ _ (grown_refl _ none) rfl (nobl rfl) (FreshB.none rfl))⟩
                    · cases (show some _ = some o from ho)
                      refine .inl ?_
                      have hc := hitem 8 (by decide) ⟨hpre 8 rfl, hout _ (by decide)⟩
                      have hx := hitem 15 (by decide) ⟨hpre 15 rfl, hout _ (by decide)⟩
                      exact ⟨rfl, wp_pick rfl hc (h1 ⟨_, rfl⟩ _ _ (grown_refl _ none) hx (by rw [show a.eval (.tmp 149) = .bool true from hx]; exact nobl rfl) (by rw [show a.eval (.tmp 149) = .bool true from hx]; exact FreshB.none rfl))⟩
                    · cases (show some _ = some o from ho)
                      refine .inl ?_
                      have hx := hitem 16 (by decide) ⟨hpre 16 rfl, hout _ (by decide)⟩
                      exact ⟨rfl, wp_move rfl (h1 ⟨_, rfl⟩ _ _ (grown_refl _ none) hx (by rw [show a.eval (.tmp 150) = .bool true from hx]; exact nobl rfl) (by rw [show a.eval (.tmp 150) = .bool true from hx]; exact FreshB.none rfl))⟩
                    · cases (show some _ = some o from ho)
                      refine .inl ?_
                      exact ⟨wanted_of (j := 17) rfl rfl (hitem 17 (by decide) ⟨hpre 17 rfl, hout _ (by decide)⟩), wp_load_row 23 _ rfl _ (houter _ rfl) _ (X.map bv).toArray (0, 0) _ (keep_of h17 hg) Tryd.underlying23 rfl (hashV_size _ (hXl.out)) (h1 ⟨_, rfl⟩ _ _ (grown_refl _ none) rfl (nobl (blocks_bytes _)) (FreshB.none (blocks_bytes _)))⟩
                    · cases (show some _ = some o from ho)
                      refine .inl ?_
                      exact ⟨wanted_of (j := 17) rfl rfl (hitem 17 (by decide) ⟨hpre 17 rfl, hout _ (by decide)⟩), wp_move rfl (h1 ⟨_, rfl⟩ _ _ (grown_refl _ none) (houter _ rfl) (by rw [houter _ rfl]; exact nobl rfl) (by rw [houter _ rfl]; exact FreshB.none rfl))⟩
                    · cases (show some _ = some o from ho)
                      refine .inl ?_
                      exact ⟨wanted_of (j := 17) rfl rfl (hitem 17 (by decide) ⟨hpre 17 rfl, hout _ (by decide)⟩), wp_load_row 28 _ rfl _ (houter _ rfl) _ #[.slice (some ⟨g3, 0, none⟩) 32 c3, .slice (some ⟨g4, 0, none⟩) 32 c4] (0, 0) _ (keep_of h19 hg) Tryd.underlying28 rfl (size_one) (h1 ⟨_, rfl⟩ _ _ (grown_refl _ none) rfl (nobl rfl) (FreshB.none rfl))⟩
                    · cases (show some _ = some o from ho)
                      refine .inl ?_
                      have x152 : a.eval (.tmp 152) = (.agg (X.map bv).toArray) := hitem 18 (by decide) ⟨hpre 18 rfl, hout _ (by decide)⟩
                      have x153 : a.eval (.tmp 153) = .slice A7 L1.length c7 := hitem 19 (by decide) ⟨hpre 19 rfl, hout _ (by decide)⟩
                      have x154 : a.eval (.tmp 154) = (.agg #[.slice (some ⟨g3, 0, none⟩) 32 c3, .slice (some ⟨g4, 0, none⟩) 32 c4]) := hitem 20 (by decide) ⟨hpre 20 rfl, hout _ (by decide)⟩
                      refine ⟨wanted_of (j := 17) rfl rfl (hitem 17 (by decide) ⟨hpre 17 rfl, hout _ (by decide)⟩), wp_call rfl Tryd.func11 (by kernel_rfl) (by kernel_rfl) (args := #[(.agg (X.map bv).toArray), .slice A7 L1.length c7, (.agg #[.slice (some ⟨g3, 0, none⟩) 32 c3, .slice (some ⟨g4, 0, none⟩) 32 c4])]) (by simp [x152, x153, x154]) ((hver1 w hg).mono ?_)⟩
                      rintro e w' ⟨rfl, hg'⟩
                      exact ⟨_, rfl, h1 ⟨_, rfl⟩ _ _ hg' rfl (nobl rfl) (FreshB.none rfl)⟩
                    · cases (show some _ = some o from ho)
                      refine .inl ?_
                      exact ⟨wanted_of (j := 17) rfl rfl (hitem 17 (by decide) ⟨hpre 17 rfl, hout _ (by decide)⟩), wp_load_row 23 _ rfl _ (houter _ rfl) _ (Y1.map bv).toArray (0, 0) _ (keep_of h24 hg) Tryd.underlying23 rfl (hashV_size _ (hYl1.out)) (h1 ⟨_, rfl⟩ _ _ (grown_refl _ none) rfl (nobl (blocks_bytes _)) (FreshB.none (blocks_bytes _)))⟩
                    · cases (show some _ = some o from ho)
                      refine .inl ?_
                      exact ⟨wanted_of (j := 17) rfl rfl (hitem 17 (by decide) ⟨hpre 17 rfl, hout _ (by decide)⟩), wp_load_row 23 _ rfl _ (houter _ rfl) _ (X.map bv).toArray (0, 0) _ (keep_of h17 hg) Tryd.underlying23 rfl (hashV_size _ (hXl.out)) (h1 ⟨_, rfl⟩ _ _ (grown_refl _ none) rfl (nobl (blocks_bytes _)) (FreshB.none (blocks_bytes _)))⟩
                    · cases (show some _ = some o from ho)
                      refine .inl ?_
                      exact ⟨wanted_of (j := 17) rfl rfl (hitem 17 (by decide) ⟨hpre 17 rfl, hout _ (by decide)⟩), wp_bin rfl (hitem 22 (by decide) ⟨hpre 22 rfl, hout _ (by decide)⟩) (hitem 23 (by decide) ⟨hpre 23 rfl, hout _ (by decide)⟩) (guard_hash _ _ _ _ _) (he1 _) (h1 ⟨_, rfl⟩ _ _ (grown_refl _ none) rfl (nobl rfl) (FreshB.none rfl))⟩
                    · cases (show some _ = some o from ho)
                      refine .inl ?_
                      exact ⟨wanted_of (j := 17) rfl rfl (hitem 17 (by decide) ⟨hpre 17 rfl, hout _ (by decide)⟩), wp_bin rfl (hitem 21 (by decide) ⟨hpre 21 rfl, hout _ (by decide)⟩) (hitem 24 (by decide) ⟨hpre 24 rfl, hout _ (by decide)⟩) (guard_bool _ _ _ _ _) (eqB_true _ _) (h1 ⟨_, rfl⟩ _ _ (grown_refl _ none) rfl (nobl rfl) (FreshB.none rfl))⟩
                    · cases (show some _ = some o from ho)
                      refine .inl ?_
                      have hc := hitem 17 (by decide) ⟨hpre 17 rfl, hout _ (by decide)⟩
                      have hx := hitem 25 (by decide) ⟨hpre 25 rfl, hout _ (by decide)⟩
                      exact ⟨rfl, wp_pick rfl hc (h1 ⟨_, rfl⟩ _ _ (grown_refl _ none) hx (by rw [show a.eval (.tmp 159) = .bool true from hx]; exact nobl rfl) (by rw [show a.eval (.tmp 159) = .bool true from hx]; exact FreshB.none rfl))⟩
                    · cases (show some _ = some o from ho)
                      refine .inl ?_
                      have hx := hitem 26 (by decide) ⟨hpre 26 rfl, hout _ (by decide)⟩
                      exact ⟨rfl, wp_move rfl (h1 ⟨_, rfl⟩ _ _ (grown_refl _ none) hx (by rw [show a.eval (.tmp 160) = .bool true from hx]; exact nobl rfl) (by rw [show a.eval (.tmp 160) = .bool true from hx]; exact FreshB.none rfl))⟩
                    · cases (show some _ = some o from ho)
                      refine .inl ?_
                      exact ⟨wanted_of (j := 27) rfl rfl (hitem 27 (by decide) ⟨hpre 27 rfl, hout _ (by decide)⟩), wp_load_row 23 _ rfl _ (houter _ rfl) _ (x1.map bv).toArray (0, 0) _ (keep_of hother hg) Tryd.underlying23 rfl (hashV_size _ (hyl.out)) (h1 ⟨_, rfl⟩ _ _ (grown_refl _ none) rfl (nobl (blocks_bytes _)) (FreshB.none (blocks_bytes _)))⟩
                    · cases (show some _ = some o from ho)
                      refine .inl ?_
                      have x162 : a.eval (.tmp 162) = (.agg (x1.map bv).toArray) := hitem 28 (by decide) ⟨hpre 28 rfl, hout _ (by decide)⟩
                      refine ⟨wanted_of (j := 27) rfl rfl (hitem 27 (by decide) ⟨hpre 27 rfl, hout _ (by decide)⟩), wp_call rfl Tryd.func9 (by kernel_rfl) (by kernel_rfl) (args := #[(.agg (x1.map bv).toArray)]) (by simp [x162]) ((hkeyU w (hk.kept hg)).mono ?_)⟩
                      rintro e w' ⟨rfl, hg'⟩
                      exact ⟨_, rfl, h1 ⟨_, rfl⟩ _ _ hg' rfl (nobl (blocks_bytes _)) (FreshB.none (blocks_bytes _))⟩
                    · cases (show some _ = some o from ho)
                      refine .inl ?_
                      exact ⟨wanted_of (j := 27) rfl rfl (hitem 27 (by decide) ⟨hpre 27 rfl, hout _ (by decide)⟩), wp_move rfl (h1 ⟨_, rfl⟩ _ _ (grown_refl _ none) (houter _ rfl) (by rw [houter _ rfl]; exact nobl rfl) (by rw [houter _ rfl]; exact FreshB.none rfl))⟩
                    · cases (show some _ = some o from ho)
                      refine .inl ?_
                      exact ⟨wanted_of (j := 27) rfl rfl (hitem 27 (by decide) ⟨hpre 27 rfl, hout _ (by decide)⟩), wp_load_row 28 _ rfl _ (houter _ rfl) _ #[.slice (some ⟨g1, 0, none⟩) 32 c1, .slice (some ⟨g2, 0, none⟩) 32 c2] (0, 0) _ (keep_of h18 hg) Tryd.underlying28 rfl (size_one) (h1 ⟨_, rfl⟩ _ _ (grown_refl _ none) rfl (nobl rfl) (FreshB.none rfl))⟩
                    · cases (show some _ = some o from ho)
                      refine .inl ?_
                      have x163 : a.eval (.tmp 163) = (.agg (U.map bv).toArray) := hitem 29 (by decide) ⟨hpre 29 rfl, hout _ (by decide)⟩
                      have x164 : a.eval (.tmp 164) = .slice A7 L1.length c7 := hitem 30 (by decide) ⟨hpre 30 rfl, hout _ (by decide)⟩
                      have x165 : a.eval (.tmp 165) = (.agg #[.slice (some ⟨g1, 0, none⟩) 32 c1, .slice (some ⟨g2, 0, none⟩) 32 c2]) := hitem 31 (by decide) ⟨hpre 31 rfl, hout _ (by decide)⟩
                      refine ⟨wanted_of (j := 27) rfl rfl (hitem 27 (by decide) ⟨hpre 27 rfl, hout _ (by decide)⟩), wp_call rfl Tryd.func11 (by kernel_rfl) (by kernel_rfl) (args := #[(.agg (U.map bv).toArray), .slice A7 L1.length c7, (.agg #[.slice (some ⟨g1, 0, none⟩) 32 c1, .slice (some ⟨g2, 0, none⟩) 32 c2])]) (by simp [x163, x164, x165]) ((hver3 w hg).mono ?_)⟩
                      rintro e w' ⟨rfl, hg'⟩
                      exact ⟨_, rfl, h1 ⟨_, rfl⟩ _ _ hg' rfl (nobl rfl) (FreshB.none rfl)⟩
                    · cases (show some _ = some o from ho)
                      refine .inl ?_
                      exact ⟨wanted_of (j := 27) rfl rfl (hitem 27 (by decide) ⟨hpre 27 rfl, hout _ (by decide)⟩), wp_load_row 23 _ rfl _ (houter _ rfl) _ (x1.map bv).toArray (0, 0) _ (keep_of hother hg) Tryd.underlying23 rfl (hashV_size _ (hyl.out)) (h1 ⟨_, rfl⟩ _ _ (grown_refl _ none) rfl (nobl (blocks_bytes _)) (FreshB.none (blocks_bytes _)))⟩
                    · cases (show some _ = some o from ho)
                      refine .inl ?_
                      have x167 : a.eval (.tmp 167) = (.agg (x1.map bv).toArray) := hitem 33 (by decide) ⟨hpre 33 rfl, hout _ (by decide)⟩
                      refine ⟨wanted_of (j := 27) rfl rfl (hitem 27 (by decide) ⟨hpre 27 rfl, hout _ (by decide)⟩), wp_call rfl Tryd.func9 (by kernel_rfl) (by kernel_rfl) (args := #[(.agg (x1.map bv).toArray)]) (by simp [x167]) ((hkeyU w (hk.kept hg)).mono ?_)⟩
                      rintro e w' ⟨rfl, hg'⟩
                      exact ⟨_, rfl, h1 ⟨_, rfl⟩ _ _ hg' rfl (nobl (blocks_bytes _)) (FreshB.none (blocks_bytes _))⟩
                    · cases (show some _ = some o from ho)
                      refine .inl ?_
                      exact ⟨wanted_of (j := 27) rfl rfl (hitem 27 (by decide) ⟨hpre 27 rfl, hout _ (by decide)⟩), wp_load_row 23 _ rfl _ (houter _ rfl) _ (X.map bv).toArray (0, 0) _ (keep_of h17 hg) Tryd.underlying23 rfl (hashV_size _ (hXl.out)) (h1 ⟨_, rfl⟩ _ _ (grown_refl _ none) rfl (nobl (blocks_bytes _)) (FreshB.none (blocks_bytes _)))⟩
                    · cases (show some _ = some o from ho)
                      refine .inl ?_
                      exact ⟨wanted_of (j := 27) rfl rfl (hitem 27 (by decide) ⟨hpre 27 rfl, hout _ (by decide)⟩), wp_bin rfl (hitem 34 (by decide) ⟨hpre 34 rfl, hout _ (by decide)⟩) (hitem 35 (by decide) ⟨hpre 35 rfl, hout _ (by decide)⟩) (guard_hash _ _ _ _ _) (he3 _) (h1 ⟨_, rfl⟩ _ _ (grown_refl _ none) rfl (nobl rfl) (FreshB.none rfl))⟩
                    · cases (show some _ = some o from ho)
                      refine .inl ?_
                      exact ⟨wanted_of (j := 27) rfl rfl (hitem 27 (by decide) ⟨hpre 27 rfl, hout _ (by decide)⟩), wp_bin rfl (hitem 32 (by decide) ⟨hpre 32 rfl, hout _ (by decide)⟩) (hitem 36 (by decide) ⟨hpre 36 rfl, hout _ (by decide)⟩) (guard_bool _ _ _ _ _) (eqB_true _ _) (h1 ⟨_, rfl⟩ _ _ (grown_refl _ none) rfl (nobl rfl) (FreshB.none rfl))⟩
                    · cases (show some _ = some o from ho)
                      refine .inl ?_
                      have hc := hitem 27 (by decide) ⟨hpre 27 rfl, hout _ (by decide)⟩
                      have hx := hitem 37 (by decide) ⟨hpre 37 rfl, hout _ (by decide)⟩
                      exact ⟨rfl, wp_pick rfl hc (h1 ⟨_, rfl⟩ _ _ (grown_refl _ none) hx (by rw [show a.eval (.tmp 171) = .bool true from hx]; exact nobl rfl) (by rw [show a.eval (.tmp 171) = .bool true from hx]; exact FreshB.none rfl))⟩
                    · cases (show some _ = some o from ho)
                      refine .inl ?_
                      have hx := hitem 38 (by decide) ⟨hpre 38 rfl, hout _ (by decide)⟩
                      exact ⟨rfl, wp_move rfl (h1 ⟨_, rfl⟩ _ _ (grown_refl _ none) hx (by rw [show a.eval (.tmp 172) = .bool true from hx]; exact nobl rfl) (by rw [show a.eval (.tmp 172) = .bool true from hx]; exact FreshB.none rfl))⟩
                    · cases (show some _ = some o from ho)
                      refine .inl ?_
                      refine ⟨wanted_of (j := 39) rfl rfl (hitem 39 (by decide) ⟨hpre 39 rfl, hout _ (by decide)⟩), wp_call rfl Tryd.func15 (by kernel_rfl) (by kernel_rfl) (args := #[]) (by simp) ((LamRuns_any w (hk.kept hg)).mono ?_)⟩
                      rintro e w' ⟨rfl, hg'⟩
                      exact ⟨_, rfl, h1 ⟨_, rfl⟩ _ _ hg' rfl (nobl rfl) (FreshB.none rfl)⟩
                    · cases (show some _ = some o from ho)
                      refine .inl ?_
                      have hc := hitem 39 (by decide) ⟨hpre 39 rfl, hout _ (by decide)⟩
                      have hx := hitem 40 (by decide) ⟨hpre 40 rfl, hout _ (by decide)⟩
                      exact ⟨rfl, wp_pick rfl hc (h1 ⟨_, rfl⟩ _ _ (grown_refl _ none) hx (by rw [show a.eval (.tmp 174) = .bool true from hx]; exact nobl rfl) (by rw [show a.eval (.tmp 174) = .bool true from hx]; exact FreshB.none rfl))⟩
                    · cases (show some _ = some o from ho)
                      refine .inl ?_
                      have hx := hitem 41 (by decide) ⟨hpre 41 rfl, hout _ (by decide)⟩
                      exact ⟨rfl, wp_assign rfl (h1 ⟨_, rfl⟩ _ _ (grown_refl _ none) hx (by rw [show a.eval (.tmp 175) = .bool true from hx]; exact nobl rfl) (by rw [show a.eval (.tmp 175) = .bool true from hx]; exact FreshB.none rfl))⟩
                  · intro a wT hgT hend hap ha
                    obtain ⟨f, hf⟩ : ∃ f : Nat → Value, f = fun t => a.tmps.getD t undef := ⟨_, rfl⟩
                    have s14 : f 14 = .bool true := by rw [hf]; exact (hend 42 (by decide) (by decide)).1
                    rw [← hf] at ha
                    clear hend hap
                    clear hf
                    subst ha
                    simp only [fill, ugS, Nat.reduceAdd, Nat.reduceBEq, Bool.or_false, Bool.or_true, cond_true, cond_false, List.drop_succ_cons, List.drop_zero, s14]
                    clear s14
                    go_wp2_with fail
                    go_ret
                    exact ⟨rfl, grown_same hgW hgT⟩
                · obtain rfl := hS2 rfl
                  refine wp_region_gc (al := ufAl) 43 (N := 176) (S := ufS) (die := ufDie) (own := ufOwn) (F := ufF x1 X U Y1 Y2 L1 L2 A7 A8 c7 c8 g1 c1 g2 c2 g3 c3 g4 c4 b1 b3) (by kernel_rfl) (Nat.le_of_ble_eq_true (by kernel_rfl)) (fun h => absurd (show 43 < 43 from h) (Nat.lt_irrefl _)) (fun h => absurd (show 43 < 43 from h) (Nat.lt_irrefl _)) (by kernel_rfl) (by kernel_rfl) (Nat.le_of_ble_eq_true (by kernel_rfl)) (ufF_lasts x1 X U Y1 Y2 L1 L2 A7 A8 c7 c8 g1 c1 g2 c2 g3 c3 g4 c4 b1 b3) ?_ ?_
                  · intro i o L' a w K hi ho hg hLi hout hpre houter hitem hap' h1 h2 h3 h4
                    have hcases : i = 0 ∨ i = 1 ∨ i = 2 ∨ i = 3 ∨ i = 4 ∨ i = 5 ∨ i = 6 ∨ i = 7 ∨ i = 8 ∨ i = 9 ∨ i = 10 ∨ i = 11 ∨ i = 12 ∨ i = 13 ∨ i = 14 ∨ i = 15 ∨ i = 16 ∨ i = 17 ∨ i = 18 ∨ i = 19 ∨ i = 20 ∨ i = 21 ∨ i = 22 ∨ i = 23 ∨ i = 24 ∨ i = 25 ∨ i = 26 ∨ i = 27 ∨ i = 28 ∨ i = 29 ∨ i = 30 ∨ i = 31 ∨ i = 32 ∨ i = 33 ∨ i = 34 ∨ i = 35 ∨ i = 36 ∨ i = 37 ∨ i = 38 ∨ i = 39 ∨ i = 40 ∨ i = 41 ∨ i = 42 := by omega
                    rcases hcases with rfl | rfl | rfl | rfl | rfl | rfl | rfl | rfl | rfl | rfl | rfl | rfl | rfl | rfl | rfl | rfl | rfl | rfl | rfl | rfl | rfl | rfl | rfl | rfl | rfl | rfl | rfl | rfl | rfl | rfl | rfl | rfl | rfl | rfl | rfl | rfl | rfl | rfl | rfl | rfl | rfl | rfl | rfl
                    · cases (show some _ = some o from ho)
                      refine .inl ?_
                      exact ⟨rfl, wp_load_row 23 _ rfl _ (houter _ rfl) _ (X.map bv).toArray (0, 0) _ (keep_of h17 hg) Tryd.underlying23 rfl (hashV_size _ (hXl.out)) (h1 ⟨_, rfl⟩ _ _ (grown_refl _ none) rfl (nobl (blocks_bytes _)) (FreshB.none (blocks_bytes _)))⟩
                    · cases (show some _ = some o from ho)
                      refine .inl ?_
                      exact ⟨rfl, wp_move rfl (h1 ⟨_, rfl⟩ _ _ (grown_refl _ none) (houter _ rfl) (by rw [houter _ rfl]; exact nobl rfl) (by rw [houter _ rfl]; exact FreshB.none rfl))⟩
                    · cases (show some _ = some o from ho)
                      refine .inl ?_
                      exact ⟨rfl, wp_load_row 28 _ rfl _ (houter _ rfl) _ #[.slice (some ⟨g1, 0, none⟩) 32 c1, .slice (some ⟨g2, 0, none⟩) 32 c2] (0, 0) _ (keep_of h18 hg) Tryd.underlying28 rfl (size_one) (h1 ⟨_, rfl⟩ _ _ (grown_refl _ none) rfl (nobl rfl) (FreshB.none rfl))⟩
                    · cases (show some _ = some o from ho)
                      refine .inl ?_
                      have x134 : a.eval (.tmp 134) = (.agg (X.map bv).toArray) := hitem 0 (by decide) ⟨hpre 0 rfl, hout _ (by decide)⟩
                      have x135 : a.eval (.tmp 135) = .slice A8 L2.length c8 := hitem 1 (by decide) ⟨hpre 1 rfl, hout _ (by decide)⟩
                      have x136 : a.eval (.tmp 136) = (.agg #[.slice (some ⟨g1, 0, none⟩) 32 c1, .slice (some ⟨g2, 0, none⟩) 32 c2]) := hitem 2 (by decide) ⟨hpre 2 rfl, hout _ (by decide)⟩
                      refine ⟨rfl, wp_call rfl Tryd.func11 (by kernel_rfl) (by kernel_rfl) (args := #[(.agg (X.map bv).toArray), .slice A8 L2.length c8, (.agg #[.slice (some ⟨g1, 0, none⟩) 32 c1, .slice (some ⟨g2, 0, none⟩) 32 c2])]) (by simp [x134, x135, x136]) ((hver2 w hg).mono ?_)⟩
                      rintro e w' ⟨rfl, hg'⟩
                      exact ⟨_, rfl, h1 ⟨_, rfl⟩ _ _ hg' rfl (nobl rfl) (FreshB.none rfl)⟩
                    · cases (show some _ = some o from ho)
                      refine .inl ?_
                      exact ⟨rfl, wp_load_row 23 _ rfl _ (houter _ rfl) _ (Y2.map bv).toArray (0, 0) _ (keep_of h22 hg) Tryd.underlying23 rfl (hashV_size _ (hYl2.out)) (h1 ⟨_, rfl⟩ _ _ (grown_refl _ none) rfl (nobl (blocks_bytes _)) (FreshB.none (blocks_bytes _)))⟩
                    · cases (show some _ = some o from ho)
                      refine .inl ?_
                      exact ⟨rfl, wp_load_row 23 _ rfl _ (houter _ rfl) _ (X.map bv).toArray (0, 0) _ (keep_of h17 hg) Tryd.underlying23 rfl (hashV_size _ (hXl.out)) (h1 ⟨_, rfl⟩ _ _ (grown_refl _ none) rfl (nobl (blocks_bytes _)) (FreshB.none (blocks_bytes _)))⟩
                    · cases (show some _ = some o from ho)
                      refine .inl ?_
                      exact ⟨rfl, wp_bin rfl (hitem 4 (by decide) ⟨hpre 4 rfl, hout _ (by decide)⟩) (hitem 5 (by decide) ⟨hpre 5 rfl, hout _ (by decide)⟩) (guard_hash _ _ _ _ _) (he2 _) (h1 ⟨_, rfl⟩ _ _ (grown_refl _ none) rfl (nobl rfl) (FreshB.none rfl))⟩
                    · cases (show some _ = some o from ho)
                      refine .inl ?_
                      exact ⟨rfl, wp_bin rfl (hitem 3 (by decide) ⟨hpre 3 rfl, hout _ (by decide)⟩) (hitem 6 (by decide) ⟨hpre 6 rfl, hout _ (by decide)⟩) (guard_bool _ _ _ _ _) (eqB_true _ _) (h1 ⟨_, rfl⟩ _ _ (grown_refl _ none) rfl (nobl rfl) (FreshB.none rfl))⟩
                    · cases (show some _ = some o from ho)
                      refine .inl ?_
                      have hx := hitem 7 (by decide) ⟨hpre 7 rfl, hout _ (by decide)⟩
                      exact ⟨rfl, wp_move rfl (h1 ⟨_, rfl⟩ _ _ (grown_refl _ none) hx (by rw [show a.eval (.tmp 141) = .bool true from hx]; exact nobl rfl) (by rw [show a.eval (.tmp 141) = .bool true from hx]; exact FreshB.none rfl))⟩
                    · cases (show some _ = some o from ho)
                      refine .inl ?_
                      exact ⟨wanted_of (j := 8) rfl rfl (hitem 8 (by decide) ⟨hpre 8 rfl, hout _ (by decide)⟩), wp_move rfl (h1 ⟨_, rfl⟩ _ _ (grown_refl _ none) (houter _ rfl) (by rw [houter _ rfl]; exact nobl rfl) (by rw [houter _ rfl]; exact FreshB.none rfl))⟩
                    · cases (show some _ = some o from ho)
                      refine .inl ?_
                      exact ⟨wanted_of (j := 8) rfl rfl (hitem 8 (by decide) ⟨hpre 8 rfl, hout _ (by decide)⟩), wp_not rfl (hitem 9 (by decide) ⟨hpre 9 rfl, hout _ (by decide)⟩) (h1 ⟨_, rfl⟩ _ _ (grown_refl _ none) rfl (nobl rfl) (FreshB.none rfl))⟩
                    · cases (show some _ = some o from ho)
                      refine .inl ?_
                      have hx := hitem 10 (by decide) ⟨hpre 10 rfl, hout _ (by decide)⟩
                      exact ⟨wanted_of (j := 8) rfl rfl (hitem 8 (by decide) ⟨hpre 8 rfl, hout _ (by decide)⟩), wp_move rfl (h1 ⟨_, rfl⟩ _ _ (grown_refl _ none) hx (by rw [show a.eval (.tmp 144) = .bool false from hx]; exact nobl rfl) (by rw [show a.eval (.tmp 144) = .bool false from hx]; exact FreshB.none rfl))⟩
                    · cases (show some _ = some o from ho)
                      refine .inl ?_
                      exact ⟨wanted_not (j := 11) rfl rfl (hitem 11 (by decide) ⟨hpre 11 rfl, hout _ (by decide)⟩), wp_load_row 23 _ rfl _ (houter _ rfl) _ (Y2.map bv).toArray (0, 0) _ (keep_of h22 hg) Tryd.underlying23 rfl (hashV_size _ (hYl2.out)) (h1 ⟨_, rfl⟩ _ _ (grown_refl _ none) rfl (nobl (blocks_bytes _)) (FreshB.none (blocks_bytes _)))⟩
                    · cases (show some _ = some o from ho)
                      refine .inl ?_
                      exact ⟨wanted_not (j := 11) rfl rfl (hitem 11 (by decide) ⟨hpre 11 rfl, hout _ (by decide)⟩), wp_load_row 23 _ rfl _ (houter _ rfl) _ (X.map bv).toArray (0, 0) _ (keep_of h17 hg) Tryd.underlying23 rfl (hashV_size _ (hXl.out)) (h1 ⟨_, rfl⟩ _ _ (grown_refl _ none) rfl (nobl (blocks_bytes _)) (FreshB.none (blocks_bytes _)))⟩
                    · cases (show some _ = some o from ho)
                      refine .inl ?_
                      exact ⟨wanted_not (j := 11) rfl rfl (hitem 11 (by decide) ⟨hpre 11 rfl, hout _ (by decide)⟩), wp_bin rfl (hitem 12 (by decide) ⟨hpre 12 rfl, hout _ (by decide)⟩) (hitem 13 (by decide) ⟨hpre 13 rfl, hout _ (by decide)⟩) (guard_hash _ _ _ _ _) (he2 _) (h1 ⟨_, rfl⟩ _ _ (grown_refl _ none) rfl (nobl rfl) (FreshB.none rfl))⟩
                    · cases (show some _ = some o from ho)
                      refine .inl ?_
                      have hc := hitem 11 (by decide) ⟨hpre 11 rfl, hout _ (by decide)⟩
                      have hx := hitem 14 (by decide) ⟨hpre 14 rfl, hout _ (by decide)⟩
                      exact ⟨wanted_of (j := 8) rfl rfl (hitem 8 (by decide) ⟨hpre 8 rfl, hout _ (by decide)⟩), wp_pick_no rfl hc (h1 ⟨_, rfl⟩ _ _ (grown_refl _ none) hx (by rw [show a.eval (.tmp 148) = .bool true from hx]; exact nobl rfl) (by rw [show a.eval (.tmp 148) = .bool true from hx]; exact FreshB.none rfl))⟩
                    · cases (show some _ = some o from ho)
                      refine .inl ?_
                      have hc := hitem 8 (by decide) ⟨hpre 8 rfl, hout _ (by decide)⟩
                      have hx := hitem 15 (by decide) ⟨hpre 15 rfl, hout _ (by decide)⟩
                      exact ⟨rfl, wp_pick rfl hc (h1 ⟨_, rfl⟩ _ _ (grown_refl _ none) hx (by rw [show a.eval (.tmp 149) = .bool true from hx]; exact nobl rfl) (by rw [show a.eval (.tmp 149) = .bool true from hx]; exact FreshB.none rfl))⟩
                    · cases (show some _ = some o from ho)
                      refine .inl ?_
                      have hx := hitem 16 (by decide) ⟨hpre 16 rfl, hout _ (by decide)⟩
                      exact ⟨rfl, wp_move rfl (h1 ⟨_, rfl⟩ _ _ (grown_refl _ none) hx (by rw [show a.eval (.tmp 150) = .bool true from hx]; exact nobl rfl) (by rw [show a.eval (.tmp 150) = .bool true from hx]; exact FreshB.none rfl))⟩
                    · cases (show some _ = some o from ho)
                      refine .inl ?_
                      exact ⟨wanted_of (j := 17) rfl rfl (hitem 17 (by decide) ⟨hpre 17 rfl, hout _ (by decide)⟩), wp_load_row 23 _ rfl _ (houter _ rfl) _ (X.map bv).toArray (0, 0) _ (keep_of h17 hg) Tryd.underlying23 rfl (hashV_size _ (hXl.out)) (h1 ⟨_, rfl⟩ _ _ (grown_refl _ none) rfl (nobl (blocks_bytes _)) (FreshB.none (blocks_bytes _)))⟩
                    · cases (show some _ = some o from ho)
                      refine .inl ?_
                      exact ⟨wanted_of (j := 17) rfl rfl (hitem 17 (by decide) ⟨hpre 17 rfl, hout _ (by decide)⟩), wp_move rfl (h1 ⟨_, rfl⟩ _ _ (grown_refl _ none) (houter _ rfl) (by rw [houter _ rfl]; exact nobl rfl) (by rw [houter _ rfl]; exact FreshB.none rfl))⟩
                    · cases (show some _ = some o from ho)
                      refine .inl ?_
                      exact ⟨wanted_of (j := 17) rfl rfl (hitem 17 (by decide) ⟨hpre 17 rfl, hout _ (by decide)⟩), wp_load_row 28 _ rfl _ (houter _ rfl) _ #[.slice (some ⟨g3, 0, none⟩) 32 c3, .slice (some ⟨g4, 0, none⟩) 32 c4] (0, 0) _ (keep_of h19 hg) Tryd.underlying28 rfl (size_one) (h1 ⟨_, rfl⟩ _ _ (grown_refl _ none) rfl (nobl rfl) (FreshB.none rfl))⟩
                    · cases (show some _ = some o from ho)
                      refine .inl ?_
                      have x152 : a.eval (.tmp 152) = (.agg (X.map bv).toArray) := hitem 18 (by decide) ⟨hpre 18 rfl, hout _ (by decide)⟩
                      have x153 : a.eval (.tmp 153) = .slice A7 L1.length c7 := hitem 19 (by decide) ⟨hpre 19 rfl, hout _ (by decide)⟩
                      have x154 : a.eval (.tmp 154) = (.agg #[.slice (some ⟨g3, 0, none⟩) 32 c3, .slice (some ⟨g4, 0, none⟩) 32 c4]) := hitem 20 (by decide) ⟨hpre 20 rfl, hout _ (by decide)⟩
                      refine ⟨wanted_of (j := 17) rfl rfl (hitem 17 (by decide) ⟨hpre 17 rfl, hout _ (by decide)⟩), wp_call rfl Tryd.func11 (by kernel_rfl) (by kernel_rfl) (args := #[(.agg (X.map bv).toArray), .slice A7 L1.length c7, (.agg #[.slice (some ⟨g3, 0, none⟩) 32 c3, .slice (some ⟨g4, 0, none⟩) 32 c4])]) (by simp [x152, x153, x154]) ((hver1 w hg).mono ?_)⟩
                      rintro e w' ⟨rfl, hg'⟩
                      exact ⟨_, rfl, h1 ⟨_, rfl⟩ _ _ hg' rfl (nobl rfl) (FreshB.none rfl)⟩
                    · cases (show some _ = some o from ho)
                      refine .inl ?_
                      exact ⟨wanted_of (j := 17) rfl rfl (hitem 17 (by decide) ⟨hpre 17 rfl, hout _ (by decide)⟩), wp_load_row 23 _ rfl _ (houter _ rfl) _ (Y1.map bv).toArray (0, 0) _ (keep_of h24 hg) Tryd.underlying23 rfl (hashV_size _ (hYl1.out)) (h1 ⟨_, rfl⟩ _ _ (grown_refl _ none) rfl (nobl (blocks_bytes _)) (FreshB.none (blocks_bytes _)))⟩
                    · cases (show some _ = some o from ho)
                      refine .inl ?_
                      exact ⟨wanted_of (j := 17) rfl rfl (hitem 17 (by decide) ⟨hpre 17 rfl, hout _ (by decide)⟩), wp_load_row 23 _ rfl _ (houter _ rfl) _ (X.map bv).toArray (0, 0) _ (keep_of h17 hg) Tryd.underlying23 rfl (hashV_size _ (hXl.out)) (h1 ⟨_, rfl⟩ _ _ (grown_refl _ none) rfl (nobl (blocks_bytes _)) (FreshB.none (blocks_bytes _)))⟩
                    · cases (show some _ = some o from ho)
                      refine .inl ?_
                      exact ⟨wanted_of (j := 17) rfl rfl (hitem 17 (by decide) ⟨hpre 17 rfl, hout _ (by decide)⟩), wp_bin rfl (hitem 22 (by decide) ⟨hpre 22 rfl, hout _ (by decide)⟩) (hitem 23 (by decide) ⟨hpre 23 rfl, hout _ (by decide)⟩) (guard_hash _ _ _ _ _) (he1 _) (h1 ⟨_, rfl⟩ _ _ (grown_refl _ none) rfl (nobl rfl) (FreshB.none rfl))⟩
                    · cases (show some _ = some o from ho)
                      refine .inl ?_
                      exact ⟨wanted_of (j := 17) rfl rfl (hitem 17 (by decide) ⟨hpre 17 rfl, hout _ (by decide)⟩), wp_bin rfl (hitem 21 (by decide) ⟨hpre 21 rfl, hout _ (by decide)⟩) (hitem 24 (by decide) ⟨hpre 24 rfl, hout _ (by decide)⟩) (guard_bool _ _ _ _ _) (eqB_true _ _) (h1 ⟨_, rfl⟩ _ _ (grown_refl _ none) rfl (nobl rfl) (FreshB.none rfl))⟩
                    · cases (show some _ = some o from ho)
                      refine .inl ?_
                      have hc := hitem 17 (by decide) ⟨hpre 17 rfl, hout _ (by decide)⟩
                      have hx := hitem 25 (by decide) ⟨hpre 25 rfl, hout _ (by decide)⟩
                      exact ⟨rfl, wp_pick rfl hc (h1 ⟨_, rfl⟩ _ _ (grown_refl _ none) hx (by rw [show a.eval (.tmp 159) = .bool true from hx]; exact nobl rfl) (by rw [show a.eval (.tmp 159) = .bool true from hx]; exact FreshB.none rfl))⟩
                    · cases (show some _ = some o from ho)
                      refine .inl ?_
                      have hx := hitem 26 (by decide) ⟨hpre 26 rfl, hout _ (by decide)⟩
                      exact ⟨rfl, wp_move rfl (h1 ⟨_, rfl⟩ _ _ (grown_refl _ none) hx (by rw [show a.eval (.tmp 160) = .bool true from hx]; exact nobl rfl) (by rw [show a.eval (.tmp 160) = .bool true from hx]; exact FreshB.none rfl))⟩
                    · cases (show some _ = some o from ho)
                      refine .inl ?_
                      exact ⟨wanted_of (j := 27) rfl rfl (hitem 27 (by decide) ⟨hpre 27 rfl, hout _ (by decide)⟩), wp_load_row 23 _ rfl _ (houter _ rfl) _ (x1.map bv).toArray (0, 0) _ (keep_of hother hg) Tryd.underlying23 rfl (hashV_size _ (hyl.out)) (h1 ⟨_, rfl⟩ _ _ (grown_refl _ none) rfl (nobl (blocks_bytes _)) (FreshB.none (blocks_bytes _)))⟩
                    · cases (show some _ = some o from ho)
                      refine .inl ?_
                      have x162 : a.eval (.tmp 162) = (.agg (x1.map bv).toArray) := hitem 28 (by decide) ⟨hpre 28 rfl, hout _ (by decide)⟩
                      refine ⟨wanted_of (j := 27) rfl rfl (hitem 27 (by decide) ⟨hpre 27 rfl, hout _ (by decide)⟩), wp_call rfl Tryd.func9 (by kernel_rfl) (by kernel_rfl) (args := #[(.agg (x1.map bv).toArray)]) (by simp [x162]) ((hkeyU w (hk.kept hg)).mono ?_)⟩
                      rintro e w' ⟨rfl, hg'⟩
                      exact ⟨_, rfl, h1 ⟨_, rfl⟩ _ _ hg' rfl (nobl (blocks_bytes _)) (FreshB.none (blocks_bytes _))⟩
                    · cases (show some _ = some o from ho)
                      refine .inl ?_
                      exact ⟨wanted_of (j := 27) rfl rfl (hitem 27 (by decide) ⟨hpre 27 rfl, hout _ (by decide)⟩), wp_move rfl (h1 ⟨_, rfl⟩ _ _ (grown_refl _ none) (houter _ rfl) (by rw [houter _ rfl]; exact nobl rfl) (by rw [houter _ rfl]; exact FreshB.none rfl))⟩
                    · cases (show some _ = some o from ho)
                      refine .inl ?_
                      exact ⟨wanted_of (j := 27) rfl rfl (hitem 27 (by decide) ⟨hpre 27 rfl, hout _ (by decide)⟩), wp_load_row 28 _ rfl _ (houter _ rfl) _ #[.slice (some ⟨g1, 0, none⟩) 32 c1, .slice (some ⟨g2, 0, none⟩) 32 c2] (0, 0) _ (keep_of h18 hg) Tryd.underlying28 rfl (size_one) (h1 ⟨_, rfl⟩ _ _ (grown_refl _ none) rfl (nobl rfl) (FreshB.none rfl))⟩
                    · cases (show some _ = some o from ho)
                      refine .inl ?_
                      have x163 : a.eval (.tmp 163) = (.agg (U.map bv).toArray) := hitem 29 (by decide) ⟨hpre 29 rfl, hout _ (by decide)⟩
                      have x164 : a.eval (.tmp 164) = .slice A7 L1.length c7 := hitem 30 (by decide) ⟨hpre 30 rfl, hout _ (by decide)⟩
                      have x165 : a.eval (.tmp 165) = (.agg #[.slice (some ⟨g1, 0, none⟩) 32 c1, .slice (some ⟨g2, 0, none⟩) 32 c2]) := hitem 31 (by decide) ⟨hpre 31 rfl, hout _ (by decide)⟩
                      refine ⟨wanted_of (j := 27) rfl rfl (hitem 27 (by decide) ⟨hpre 27 rfl, hout _ (by decide)⟩), wp_call rfl Tryd.func11 (by kernel_rfl) (by kernel_rfl) (args := #[(.agg (U.map bv).toArray), .slice A7 L1.length c7, (.agg #[.slice (some ⟨g1, 0, none⟩) 32 c1, .slice (some ⟨g2, 0, none⟩) 32 c2])]) (by simp [x163, x164, x165]) ((hver3 w hg).mono ?_)⟩
                      rintro e w' ⟨rfl, hg'⟩
                      exact ⟨_, rfl, h1 ⟨_, rfl⟩ _ _ hg' rfl (nobl rfl) (FreshB.none rfl)⟩
                    · cases (show some _ = some o from ho)
                      refine .inl ?_
                      exact ⟨wanted_of (j := 27) rfl rfl (hitem 27 (by decide) ⟨hpre 27 rfl, hout _ (by decide)⟩), wp_load_row 23 _ rfl _ (houter _ rfl) _ (x1.map bv).toArray (0, 0) _ (keep_of hother hg) Tryd.underlying23 rfl (hashV_size _ (hyl.out)) (h1 ⟨_, rfl⟩ _ _ (grown_refl _ none) rfl (nobl (blocks_bytes _)) (FreshB.none (blocks_bytes _)))⟩
                    · cases (show some _ = some o from ho)
                      refine .inl ?_
                      have x167 : a.eval (.tmp 167) = (.agg (x1.map bv).toArray) := hitem 33 (by decide) ⟨hpre 33 rfl, hout _ (by decide)⟩
                      refine ⟨wanted_of (j := 27) rfl rfl (hitem 27 (by decide) ⟨hpre 27 rfl, hout _ (by decide)⟩), wp_call rfl Tryd.func9 (by kernel_rfl) (by kernel_rfl) (args := #[(.agg (x1.map bv).toArray)]) (by simp [x167]) ((hkeyU w (hk.kept hg)).mono ?_)⟩
                      rintro e w' ⟨rfl, hg'⟩
                      exact ⟨_, rfl, h1 ⟨_, rfl⟩ _ _ hg' rfl (nobl (blocks_bytes _)) (FreshB.none (blocks_bytes _))⟩
                    · cases (show some _ = some o from ho)
                      refine .inl ?_
                      exact ⟨wanted_of (j := 27) rfl rfl (hitem 27 (by decide) ⟨hpre 27 rfl, hout _ (by decide)⟩), wp_load_row 23 _ rfl _ (houter _ rfl) _ (X.map bv).toArray (0, 0) _ (keep_of h17 hg) Tryd.underlying23 rfl (hashV_size _ (hXl.out)) (h1 ⟨_, rfl⟩ _ _ (grown_refl _ none) rfl (nobl (blocks_bytes _)) (FreshB.none (blocks_bytes _)))⟩
                    · cases (show some _ = some o from ho)
                      refine .inl ?_
                      exact ⟨wanted_of (j := 27) rfl rfl (hitem 27 (by decide) ⟨hpre 27 rfl, hout _ (by decide)⟩), wp_bin rfl (hitem 34 (by decide) ⟨hpre 34 rfl, hout _ (by decide)⟩) (hitem 35 (by decide) ⟨hpre 35 rfl, hout _ (by decide)⟩) (guard_hash _ _ _ _ _) (he3 _) (h1 ⟨_, rfl⟩ _ _ (grown_refl _ none) rfl (nobl rfl) (FreshB.none rfl))⟩
                    · cases (show some _ = some o from ho)
                      refine .inl ?_
                      exact ⟨wanted_of (j := 27) rfl rfl (hitem 27 (by decide) ⟨hpre 27 rfl, hout _ (by decide)⟩), wp_bin rfl (hitem 32 (by decide) ⟨hpre 32 rfl, hout _ (by decide)⟩) (hitem 36 (by decide) ⟨hpre 36 rfl, hout _ (by decide)⟩) (guard_bool _ _ _ _ _) (eqB_true _ _) (h1 ⟨_, rfl⟩ _ _ (grown_refl _ none) rfl (nobl rfl) (FreshB.none rfl))⟩
                    · cases (show some _ = some o from ho)
                      refine .inl ?_
                      have hc := hitem 27 (by decide) ⟨hpre 27 rfl, hout _ (by decide)⟩
                      have hx := hitem 37 (by decide) ⟨hpre 37 rfl, hout _ (by decide)⟩
                      exact ⟨rfl, wp_pick rfl hc (h1 ⟨_, rfl⟩ _ _ (grown_refl _ none) hx (by rw [show a.eval (.tmp 171) = .bool true from hx]; exact nobl rfl) (by rw [show a.eval (.tmp 171) = .bool true from hx]; exact FreshB.none rfl))⟩
                    · cases (show some _ = some o from ho)
                      refine .inl ?_
                      have hx := hitem 38 (by decide) ⟨hpre 38 rfl, hout _ (by decide)⟩
                      exact ⟨rfl, wp_move rfl (h1 ⟨_, rfl⟩ _ _ (grown_refl _ none) hx (by rw [show a.eval (.tmp 172) = .bool true from hx]; exact nobl rfl) (by rw [show a.eval (.tmp 172) = .bool true from hx]; exact FreshB.none rfl))⟩
                    · cases (show some _ = some o from ho)
                      refine .inl ?_
                      refine ⟨wanted_of (j := 39) rfl rfl (hitem 39 (by decide) ⟨hpre 39 rfl, hout _ (by decide)⟩), wp_call rfl Tryd.func15 (by kernel_rfl) (by kernel_rfl) (args := #[]) (by simp) ((LamRuns_any w (hk.kept hg)).mono ?_)⟩
                      rintro e w' ⟨rfl, hg'⟩
                      exact ⟨_, rfl, h1 ⟨_, rfl⟩ _ _ hg' rfl (nobl rfl) (FreshB.none rfl)⟩
                    · cases (show some _ = some o from ho)
                      refine .inl ?_
                      have hc := hitem 39 (by decide) ⟨hpre 39 rfl, hout _ (by decide)⟩
                      have hx := hitem 40 (by decide) ⟨hpre 40 rfl, hout _ (by decide)⟩
                      exact ⟨rfl, wp_pick rfl hc (h1 ⟨_, rfl⟩ _ _ (grown_refl _ none) hx (by rw [show a.eval (.tmp 174) = .bool true from hx]; exact nobl rfl) (by rw [show a.eval (.tmp 174) = .bool true from hx]; exact FreshB.none rfl))⟩
                    · cases (show some _ = some o from ho)
                      refine .inl ?_
                      have hx := hitem 41 (by decide) ⟨hpre 41 rfl, hout _ (by decide)⟩
                      exact ⟨rfl, wp_assign rfl (h1 ⟨_, rfl⟩ _ _ (grown_refl _ none) hx (by rw [show a.eval (.tmp 175) = .bool true from hx]; exact nobl rfl) (by rw [show a.eval (.tmp 175) = .bool true from hx]; exact FreshB.none rfl))⟩
                  · intro a wT hgT hend hap ha
                    obtain ⟨f, hf⟩ : ∃ f : Nat → Value, f = fun t => a.tmps.getD t undef := ⟨_, rfl⟩
                    have s14 : f 14 = .bool true := by rw [hf]; exact (hend 42 (by decide) (by decide)).1
                    rw [← hf] at ha
                    clear hend hap
                    clear hf
                    subst ha
                    simp only [fill, ufS, Nat.reduceAdd, Nat.reduceBEq, Bool.or_false, Bool.or_true, cond_true, cond_false, List.drop_succ_cons, List.drop_zero, s14]
                    clear s14
                    go_wp2_with fail
                    go_ret
                    exact ⟨rfl, grown_same hgW hgT⟩
end Go.Proofs.YtmfnncfiaaeknaaDoor
