/- A seed's key; the document's own. -/
import Derived.Test.YtmfnncfiaaeknaaDoorRegT
namespace Go.Proofs.YtmfnncfiaaeknaaDoor
open Go.RowKit

def rkS (t : Nat) : Bool := t == 8 || t == 9 || t == 10 || t == 11 || t == 12 || t == 13 || t == 14 || t == 15 || t == 16 || t == 17
def rkDie (_ : Nat) : Nat := 99
def rkOwn (_ : Nat) : Bool := false
def rkAl (_ : Nat) : Bool := false
def rkF (s : List UInt8) (k : Nat) (u3 : Value) (X0 X1 Y0 Y1 Z : List UInt8) : Nat → Value → World → Prop
  | 0 => fun v _ => v = u3
  | 1 => fun v _ => v = (.agg (s.map bv).toArray)
  | 2 => fun v _ => v = (.int .i64 (k : Int))
  | 3 => fun v _ => v = (.agg (X0.map bv).toArray)
  | 4 => fun v _ => v = (.agg (Y0.map bv).toArray)
  | 5 => fun v _ => v = (.agg (s.map bv).toArray)
  | 6 => fun v _ => v = (.int .i64 (k : Int))
  | 7 => fun v _ => v = (.agg (X1.map bv).toArray)
  | 8 => fun v _ => v = (.agg (Y1.map bv).toArray)
  | 9 => fun v w => ∃ b, v = .slice (some ⟨b, 0, none⟩) 2 2 ∧ RdB w (some ⟨b, 0, none⟩) Z
  | _ => fun _ _ => True
theorem rkF_lasts (s : List UInt8) (k : Nat) (u3 : Value) (X0 X1 Y0 Y1 Z : List UInt8) : ∀ kq, LastsK rkAl true kq (rkF s k u3 X0 X1 Y0 Y1 Z kq)
  | 0 => LastsK.val _
  | 1 => LastsK.val _
  | 2 => LastsK.val _
  | 3 => LastsK.val _
  | 4 => LastsK.val _
  | 5 => LastsK.val _
  | 6 => LastsK.val _
  | 7 => LastsK.val _
  | 8 => LastsK.val _
  | 9 => LastsK.calm fun _ _ _ ⟨b, h1, h2⟩ hg => ⟨b, h1, h2.kept hg⟩
  | _ + 10 => fun _ _ _ _ _ _ _ _ => trivial

end Go.Proofs.YtmfnncfiaaeknaaDoor
