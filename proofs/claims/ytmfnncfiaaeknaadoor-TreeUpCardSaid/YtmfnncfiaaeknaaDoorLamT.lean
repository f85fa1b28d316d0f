/- A signature; the document's own. -/
import Derived.Test.YtmfnncfiaaeknaaDoorLamS
import Derived.RegionTactic
namespace Go.Proofs.YtmfnncfiaaeknaaDoor
open Go.RowKit

theorem set_two {w : World} {g : Nat} {t : TypeId} {x y : Value} (h : w.heap[g]? = some (.cells #[x, y] t (0, 0))) (z : Value) :
    (w.setCell ⟨g, 0, none⟩ z).heap[g]? = some (.cells #[z, y] t (0, 0)) ∧ (w.setCell ⟨g, 1, none⟩ z).heap[g]? = some (.cells #[x, z] t (0, 0)) :=
  ⟨heap_setCell_to h rfl, heap_setCell_to h rfl⟩
theorem grown_cell1 (w : World) (g i : Nat) (z : Value) : w.grownBy (w.setCell ⟨g, i, none⟩ z) (some g) := grown_set (grown_refl _ _) (p := ⟨g, i, none⟩) (.inl rfl) z
theorem own_ne {v : Value} {g b : Nat} (h : ∀ k, v.ownBlock = some k → b ≤ k) (hg : g < b) : v.ownBlock = none ∨ v.ownBlock ≠ some g := by
  by_cases e : v.ownBlock = some g
  · have := h g e; omega
  · exact .inr e
theorem ne_own {v : Value} {g b : Nat} (h : ∀ k, v.ownBlock = some k → b ≤ k) (hg : g < b) : some g ≠ v.ownBlock := fun e => by have := h g e.symm; omega
theorem Kn.row {w wz wy : World} {bs : List (Nat × Obj)} (h : Kn w bs wz) {row : Option Nat} (hg : wz.grownBy wy row) (h0 : ∀ g, row = some g → w.heap.size ≤ g) (hne : ∀ p ∈ bs, some p.1 ≠ row) : Kn w bs wy :=
  ⟨grown_trans h.1 hg (.inr h0), fun p hp => other_block (h.2 p hp) hg (hne p hp)⟩
theorem guard_sub (x y : Operand) (xv yv : Value) (w : World) : (eqGuard .sub 3 x y xv yv).run Tryd.prog w = .ok () w := by kernel_rfl
theorem sub1_i64 (b d : Nat) (h : IntKind.i64.wrap (1 - (b : Int)) = (d : Int)) (w : World) : (binOp .sub 3 (.int .i64 1) (.int .i64 b)).run Tryd.prog w = .ok (.int .i64 d) w := by
  have e : (binOp .sub 3 (.int .i64 1) (.int .i64 b)).run Tryd.prog w = .ok (.int .i64 (IntKind.i64.wrap (1 - (b : Int)))) w := by kernel_rfl
  rw [e, h]
theorem FreshT.grew {R : Option Nat} {i1 : Nat} {al own : Nat → Bool} {W : World} {i k : Nat} {w w' : World} {u v : Value} (ha : al i = false) (hk : bk al k u = u.ownBlock) (h : Grew w w' u v) : FreshT R i1 al own W i w (bk al k u) v := by
  have hb : bk al i v = v.ownBlock := by simp [bk, ha]
  rcases h.2 with e | ⟨g, e, hg⟩
  · exact .inr (.inr (.inl (by rw [hb, hk, e])))
  · exact .inr (.inl ⟨g, by rw [hb, e], hg⟩)
theorem LastsK.ownHs {al : Nat → Bool} {q : Bool} {k : Nat} (ha : al k = false) (u : Value) (l : List UInt8) (n : Nat) : LastsK al q k fun v w => v = u ∧ OwnHs w v l n := .of ha fun _ _ _ _ h hg hne => ⟨h.1, h.2.keep hg hne⟩
theorem LastsK.litHs {al : Nat → Bool} {q : Bool} {k : Nat} (ha : al k = false) (l : List UInt8) (n : Nat) : LastsK al q k fun v w => ∃ b, v = .slice (some ⟨b, 0, none⟩) n n ∧ RdB w (some ⟨b, 0, none⟩) l := .of ha (by
  rintro v w w' row ⟨b, rfl, h⟩ hg hne
  refine ⟨b, rfl, h.keep hg fun ad e er => ?_⟩
  cases e
  rcases hne with h1 | h1
  · cases h1
  · exact h1 er)
/-- The row that an append leaves: the old one's block, or a new one. -/
def Grown (R : Option Nat) (W : World) (l : List UInt8) (n : Nat) (v : Value) (w : World) : Prop := OwnHs w v l n ∧ (v.ownBlock = R ∨ ∃ g, v.ownBlock = some g ∧ W.heap.size ≤ g)
theorem LastsK.grown {al : Nat → Bool} {q : Bool} {k : Nat} (ha : al k = false) (R : Option Nat) (W : World) (l : List UInt8) (n : Nat) : LastsK al q k (Grown R W l n) := .of ha fun _ _ _ _ h hg hne => ⟨h.1.keep hg hne, h.2⟩
theorem Grown.grew {R : Option Nat} {W w w' : World} {u v : Value} {l : List UInt8} {n : Nat} (hs : W.heap.size ≤ w.heap.size) (hR : u.ownBlock = R) (h : OwnHs w' v l n) (hg : Grew w w' u v) : Grown R W l n v w' := ⟨h, by
  rcases hg.2 with e | ⟨g, e, h1⟩
  · exact .inl (by rw [e, hR])
  · exact .inr ⟨g, e, Nat.le_trans hs h1⟩⟩
theorem app_apart {W : World} {v v' u : Value} (h : v'.ownBlock = v.ownBlock ∨ ∃ g, v'.ownBlock = some g ∧ W.heap.size ≤ g) (hu : ∀ g, u.ownBlock = some g → g < W.heap.size) (h2 : u.ownBlock = none ∨ u.ownBlock ≠ v.ownBlock) :
    (v'.ownBlock = none ∨ v'.ownBlock ≠ u.ownBlock) ∧ (u.ownBlock = none ∨ u.ownBlock ≠ v'.ownBlock) := by
  have h3 : u.ownBlock = none ∨ u.ownBlock ≠ v'.ownBlock := by
    rcases h with e | ⟨g, e, hg⟩
    · rw [e]; exact h2
    · by_cases e2 : u.ownBlock = some g
      · have := hu g e2; omega
      · rw [e]; exact .inr e2
  refine ⟨?_, h3⟩
  rcases h3 with h | h
  · cases e : v'.ownBlock with
    | none => exact .inl rfl
    | some g => rw [h]; exact .inr (by simp)
  · exact .inr (Ne.symm h)
theorem app_ge {W : World} {v v' : Value} {b : Nat} (hh : v'.ownBlock = v.ownBlock ∨ ∃ g, v'.ownBlock = some g ∧ W.heap.size ≤ g) (h : ∀ g, v.ownBlock = some g → b ≤ g) (hb : b ≤ W.heap.size) : ∀ g, v'.ownBlock = some g → b ≤ g := by
  intro g hg
  rcases hh with e | ⟨g', e, hg'⟩
  · exact h g (by rw [← e]; exact hg)
  · rw [e] at hg; cases hg; omega

def saS (t : Nat) : Bool := t == 14 || t == 15 || t == 16 || t == 17 || t == 18 || t == 19 || t == 20 || t == 21 || t == 22
def saDie (k : Nat) : Nat := if k = 1 then 7 else 99
def saOwn (k : Nat) : Bool := k == 1
def saAl (_ : Nat) : Bool := false
def saF (s : List UInt8) (k b : Nat) (g5 : Nat) (v1 : Value) (D1 Y : List UInt8) (wr : World) : Nat → Value → World → Prop
  | 0 => fun v _ => v = .pointer (some ⟨g5, 0, none⟩)
  | 1 => fun x w => x = v1 ∧ OwnHs w x D1 k
  | 2 => fun v _ => v = (.agg (s.map bv).toArray)
  | 3 => fun v _ => v = (.int .i64 (k : Int))
  | 4 => fun v _ => v = (.int .i64 (b : Int))
  | 5 => fun v _ => v = (.agg (Y.map bv).toArray)
  | 6 => fun x w => ∃ c, x = .slice (some ⟨c, 0, none⟩) 1 1 ∧ RdB w (some ⟨c, 0, none⟩) Y
  | 7 => Grown v1.ownBlock wr (D1 ++ Y) (k + 1)
  | 8 => fun v _ => v = .pointer (some ⟨g5, 0, none⟩)
  | _ => fun _ _ => True
theorem saF_lasts (s : List UInt8) (k b : Nat) (g5 : Nat) (v1 : Value) (D1 Y : List UInt8) (wr : World) : ∀ kq, LastsK saAl false kq (saF s k b g5 v1 D1 Y wr kq)
  | 0 => LastsK.val _
  | 1 => LastsK.ownHs rfl _ _ _
  | 2 => LastsK.val _
  | 3 => LastsK.val _
  | 4 => LastsK.val _
  | 5 => LastsK.val _
  | 6 => LastsK.litHs rfl _ _
  | 7 => LastsK.grown rfl _ _ _ _
  | 8 => LastsK.val _
  | _ + 9 => fun _ _ _ _ _ _ _ _ => trivial
def sbS (t : Nat) : Bool := t == 23 || t == 24 || t == 25 || t == 26 || t == 27 || t == 28 || t == 29 || t == 30 || t == 31 || t == 32 || t == 33
def sbDie (k : Nat) : Nat := if k = 1 then 9 else 99
def sbOwn (k : Nat) : Bool := k == 1
def sbAl (_ : Nat) : Bool := false
def sbF (s : List UInt8) (k b d : Nat) (g5 : Nat) (v2 : Value) (D2 Z T : List UInt8) (wr : World) : Nat → Value → World → Prop
  | 0 => fun v _ => v = .pointer (some ⟨g5, 1, none⟩)
  | 1 => fun x w => x = v2 ∧ OwnHs w x D2 k
  | 2 => fun v _ => v = (.agg (s.map bv).toArray)
  | 3 => fun v _ => v = (.int .i64 (k : Int))
  | 4 => fun v _ => v = (.int .i64 (b : Int))
  | 5 => fun v _ => v = (.int .i64 (d : Int))
  | 6 => fun v _ => v = (.agg (Z.map bv).toArray)
  | 7 => fun v _ => v = (.agg (T.map bv).toArray)
  | 8 => fun x w => ∃ c, x = .slice (some ⟨c, 0, none⟩) 1 1 ∧ RdB w (some ⟨c, 0, none⟩) T
  | 9 => Grown v2.ownBlock wr (D2 ++ T) (k + 1)
  | 10 => fun v _ => v = .pointer (some ⟨g5, 1, none⟩)
  | _ => fun _ _ => True
theorem sbF_lasts (s : List UInt8) (k b d : Nat) (g5 : Nat) (v2 : Value) (D2 Z T : List UInt8) (wr : World) : ∀ kq, LastsK sbAl false kq (sbF s k b d g5 v2 D2 Z T wr kq)
  | 0 => LastsK.val _
  | 1 => LastsK.ownHs rfl _ _ _
  | 2 => LastsK.val _
  | 3 => LastsK.val _
  | 4 => LastsK.val _
  | 5 => LastsK.val _
  | 6 => LastsK.val _
  | 7 => LastsK.val _
  | 8 => LastsK.litHs rfl _ _
  | 9 => LastsK.grown rfl _ _ _ _
  | 10 => LastsK.val _
  | _ + 11 => fun _ _ _ _ _ _ _ _ => trivial

end Go.Proofs.YtmfnncfiaaeknaaDoor
