/- Merkle trees: depths, costs, what a path leads up to; the program's. Merkle trees: what a path leads up to, the document's own. -/
import Derived.Test.YtpeepiboocdnaaaDoorKH
import Derived.Test.YtpeepiboocdnaaaDoorKG
namespace Go.Proofs.YtpeepiboocdnaaaDoor
open Go.RowKit

/-- The path's k-th hash, where it lies. -/
theorem range_at {w : World} {g : Nat} {P : List UInt8} (h : RdB w (some ⟨g, 0, none⟩) P) {k n : Nat} (hl : P.length = n * 32) (hk : k < n) : w.rangeAt g (k * 32) (((P.drop (k * 32)).take 32).map bv) := by
  obtain ⟨ad, e, hc⟩ := hash_at h hl hk
  cases e
  intro j v hv
  have := hc j v hv
  rwa [Addr.add_mid, Addr.add_mid, Nat.zero_add] at this
theorem sl_hiH2 (A : Option Addr) (n c k : Nat) (hk : k ≤ c) (w : World) : (Instr.sliceAt 39 (.slice A n c) none (some (.int .i64 (k : Int))) none).run Tryd.prog w = .ok (.slice A k c) w := sl_hiH A n c k hk w

def duS (t : Nat) : Bool := t == 23 || t == 24 || t == 25 || t == 26 || t == 27 || t == 28 || t == 29 || t == 30 || t == 31 || t == 32 || t == 33 || t == 34
def duDie (_ : Nat) : Nat := 99
def duOwn (_ : Nat) : Bool := false
def duAl (k : Nat) : Bool := k == 0 || k == 3 || k == 5 || k == 7
def duF (A : Option Addr) (g k c i d cp mn : Nat) (T S Z : List UInt8) : Nat → Value → World → Prop
  | 0 => fun v _ => v = .slice A mn c
  | 1 => fun v _ => v = .int .i64 (i : Int)
  | 2 => fun v _ => v = .int .i64 (k : Int)
  | 3 => fun v _ => v = .slice (some ⟨g, 0, none⟩) (d + 1) cp
  | 4 => fun v _ => v = .int .i64 (d : Int)
  | 5 => fun v _ => v = .slice (some ⟨g, 0, none⟩) d cp
  | 6 => fun v _ => v = (.agg (S.map bv).toArray)
  | 7 => fun v _ => v = .slice (some ⟨g, 0, none⟩) (d + 1) cp
  | 8 => fun v _ => v = .int .i64 (d : Int)
  | 9 => fun v _ => v = .pointer (some ⟨g, d * 32, none⟩)
  | 10 => fun v _ => v = (.agg (T.map bv).toArray)
  | 11 => fun v _ => v = (.agg (Z.map bv).toArray)
  | _ => fun _ _ => True
theorem duF_lasts (A : Option Addr) (g k c i d cp mn : Nat) (T S Z : List UInt8) : ∀ kq, LastsB duAl kq (duF A g k c i d cp mn T S Z kq)
  | 0 => LastsB.val _
  | 1 => LastsB.val _
  | 2 => LastsB.val _
  | 3 => LastsB.val _
  | 4 => LastsB.val _
  | 5 => LastsB.val _
  | 6 => LastsB.val _
  | 7 => LastsB.val _
  | 8 => LastsB.val _
  | 9 => LastsB.val _
  | 10 => LastsB.val _
  | 11 => LastsB.val _
  | _ + 12 => fun _ _ _ _ _ _ _ => trivial
def dvS (t : Nat) : Bool := t == 35 || t == 36 || t == 37 || t == 38 || t == 39 || t == 40 || t == 41 || t == 42 || t == 43 || t == 44 || t == 45 || t == 46 || t == 47 || t == 48 || t == 49 || t == 50
def dvDie (_ : Nat) : Nat := 99
def dvOwn (_ : Nat) : Bool := false
def dvAl (k : Nat) : Bool := k == 0 || k == 4 || k == 11 || k == 13
def dvF (A : Option Addr) (g n k m2 c i i2 d cp mn : Nat) (T S Z : List UInt8) : Nat → Value → World → Prop
  | 0 => fun v _ => v = .slice (some ⟨g, 0, none⟩) (d + 1) cp
  | 1 => fun v _ => v = .int .i64 (d : Int)
  | 2 => fun v _ => v = .pointer (some ⟨g, d * 32, none⟩)
  | 3 => fun v _ => v = (.agg (T.map bv).toArray)
  | 4 => fun v _ => v = .slice A mn c
  | 5 => fun v _ => v = .int .i64 (i : Int)
  | 6 => fun v _ => v = .int .i64 (k : Int)
  | 7 => fun v _ => v = .int .i64 (i2 : Int)
  | 8 => fun v _ => v = .int .i64 (n : Int)
  | 9 => fun v _ => v = .int .i64 (k : Int)
  | 10 => fun v _ => v = .int .i64 (m2 : Int)
  | 11 => fun v _ => v = .slice (some ⟨g, 0, none⟩) (d + 1) cp
  | 12 => fun v _ => v = .int .i64 (d : Int)
  | 13 => fun v _ => v = .slice (some ⟨g, 0, none⟩) d cp
  | 14 => fun v _ => v = (.agg (S.map bv).toArray)
  | 15 => fun v _ => v = (.agg (Z.map bv).toArray)
  | _ => fun _ _ => True
theorem dvF_lasts (A : Option Addr) (g n k m2 c i i2 d cp mn : Nat) (T S Z : List UInt8) : ∀ kq, LastsB dvAl kq (dvF A g n k m2 c i i2 d cp mn T S Z kq)
  | 0 => LastsB.val _
  | 1 => LastsB.val _
  | 2 => LastsB.val _
  | 3 => LastsB.val _
  | 4 => LastsB.val _
  | 5 => LastsB.val _
  | 6 => LastsB.val _
  | 7 => LastsB.val _
  | 8 => LastsB.val _
  | 9 => LastsB.val _
  | 10 => LastsB.val _
  | 11 => LastsB.val _
  | 12 => LastsB.val _
  | 13 => LastsB.val _
  | 14 => LastsB.val _
  | 15 => LastsB.val _
  | _ + 16 => fun _ _ _ _ _ _ _ => trivial

end Go.Proofs.YtpeepiboocdnaaaDoor

namespace Go.Proofs.YtpeepiboocdnaaaDoor
open Go.RowKit

theorem range_ao {w : World} {g o : Nat} {P : List UInt8} (h : RdB w (some ⟨g, o, none⟩) P) {k n : Nat} (hl : P.length = n * 32) (hk : k < n) : w.rangeAt g (o + k * 32) (((P.drop (k * 32)).take 32).map bv) := by
  obtain ⟨ad, e, hc⟩ := hash_at h hl hk
  cases e
  intro j v hv
  have := hc j v hv
  rwa [Addr.add_mid, Addr.add_mid] at this
theorem index_ho (g o n c k : Nat) (hk : k < n) (w : World) : (Instr.indexAt 39 (.slice (some ⟨g, o, none⟩) n c) (.int .i64 (k : Int))).run Tryd.prog w = .ok (.pointer (some ⟨g, o + k * 32, none⟩)) w := by
  have h := run_indexAt_slice (P := Tryd.prog) (w := w) 39 ⟨g, o, none⟩ n c .i64 (k : Int) (by kernel_rfl)
  rw [h, if_pos ⟨by omega, by omega⟩, show (sizeOf (Tryd.prog.elem 39)).run Tryd.prog w = .ok 32 w from by kernel_rfl, Result.andThen_ok, Int.toNat_natCast, Addr.add_mid]


def eaS (t : Nat) : Bool := t == 10 || t == 11 || t == 40 || t == 41 || t == 42 || t == 43 || t == 44 || t == 45 || t == 46 || t == 47
def eaDie (_ : Nat) : Nat := 99
def eaOwn (k : Nat) : Bool := k == 8
def eaAl (k : Nat) : Bool := k == 2 || k == 3 || k == 8
def eaF (g o n k d cp : Nat) (T : List UInt8) : Nat → Value → World → Prop
  | 0 => fun v _ => v = .int .i64 (n : Int)
  | 1 => fun v _ => v = .int .i64 (k : Int)
  | 2 => fun v _ => v = .slice (some ⟨g, o, none⟩) (d + 1) cp
  | 3 => fun v _ => v = .slice (some ⟨g, o, none⟩) (d + 1) cp
  | 4 => fun v _ => v = .int .i64 ((d + 1 : Nat) : Int)
  | 5 => fun v _ => v = .int .i64 (d : Int)
  | 6 => fun v _ => v = .pointer (some ⟨g, o + d * 32, none⟩)
  | 7 => fun v _ => v = (.agg (T.map bv).toArray)
  | 8 => Made (rowH []) 44
  | 9 => fun v _ => v = .int .i64 (k : Int)
  | _ => fun _ _ => True
theorem eaF_lasts (g o n k d cp : Nat) (T : List UInt8) : ∀ kq, LastsB eaAl kq (eaF g o n k d cp T kq)
  | 0 => LastsB.val _
  | 1 => LastsB.val _
  | 2 => LastsB.val _
  | 3 => LastsB.val _
  | 4 => LastsB.val _
  | 5 => LastsB.val _
  | 6 => LastsB.val _
  | 7 => LastsB.val _
  | 8 => LastsB.made rfl _ _
  | 9 => LastsB.val _
  | _ + 10 => fun _ _ _ _ _ _ _ => trivial
def ebS (t : Nat) : Bool := t == 63 || t == 64 || t == 65 || t == 66 || t == 67
def ebDie (_ : Nat) : Nat := 99
def ebOwn (_ : Nat) : Bool := false
def ebAl (k : Nat) : Bool := k == 0 || k == 1
def ebF (g2 g3 : Nat) (X Y Z : List UInt8) (b : Bool) : Nat → Value → World → Prop
  | 0 => fun v _ => v = .slice (some ⟨g2, 0, none⟩) 32 32
  | 1 => fun v _ => v = .slice (some ⟨g3, 0, none⟩) 32 32
  | 2 => Part2 (hp g2 X) (hp g3 Y)
  | 3 => fun v _ => v = (.agg (Z.map bv).toArray)
  | 4 => fun v _ => v = .bool b
  | _ => fun _ _ => True
theorem ebF_lasts (g2 g3 : Nat) (X Y Z : List UInt8) (b : Bool) : ∀ kq, LastsB ebAl kq (ebF g2 g3 X Y Z b kq)
  | 0 => LastsB.val _
  | 1 => LastsB.val _
  | 2 => LastsB.part2 rfl _ _
  | 3 => LastsB.val _
  | 4 => LastsB.val _
  | _ + 5 => fun _ _ _ _ _ _ _ => trivial
def ecS (t : Nat) : Bool := t == 84 || t == 85 || t == 86 || t == 87 || t == 88
def ecDie (_ : Nat) : Nat := 99
def ecOwn (_ : Nat) : Bool := false
def ecAl (k : Nat) : Bool := k == 0 || k == 1
def ecF (g2 g3 : Nat) (X Y Z : List UInt8) (b : Bool) : Nat → Value → World → Prop
  | 0 => fun v _ => v = .slice (some ⟨g2, 0, none⟩) 32 32
  | 1 => fun v _ => v = .slice (some ⟨g3, 0, none⟩) 32 32
  | 2 => Part2 (hp g2 X) (hp g3 Y)
  | 3 => fun v _ => v = (.agg (Z.map bv).toArray)
  | 4 => fun v _ => v = .bool b
  | _ => fun _ _ => True
theorem ecF_lasts (g2 g3 : Nat) (X Y Z : List UInt8) (b : Bool) : ∀ kq, LastsB ecAl kq (ecF g2 g3 X Y Z b kq)
  | 0 => LastsB.val _
  | 1 => LastsB.val _
  | 2 => LastsB.part2 rfl _ _
  | 3 => LastsB.val _
  | 4 => LastsB.val _
  | _ + 5 => fun _ _ _ _ _ _ _ => trivial

end Go.Proofs.YtpeepiboocdnaaaDoor
