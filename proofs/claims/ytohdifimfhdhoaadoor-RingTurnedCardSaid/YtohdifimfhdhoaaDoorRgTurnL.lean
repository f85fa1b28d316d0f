/- What turning a signature leaves: the program's answer and the document's are one. -/
import Derived.Test.YtohdifimfhdhoaaDoorRingH
namespace Go.Proofs.YtohdifimfhdhoaaDoor
open Go.RowKit

theorem field_S1 (g : Nat) (w : World) : (Instr.fieldAt 28 (.pointer (some ⟨g, 0, none⟩)) 1).run Tryd.prog w = .ok (.pointer (some ⟨g, 1, none⟩)) w := by kernel_rfl
theorem field_P0 (g : Nat) (w : World) : (Instr.fieldAt 26 (.pointer (some ⟨g, 1, none⟩)) 0).run Tryd.prog w = .ok (.pointer (some ⟨g, 1, none⟩)) w := by kernel_rfl
theorem rem16 (i : Nat) (h : i < 16) (w : World) : (binOp .rem 3 (.int .i64 ((i : Int) + 1)) (.int .i64 16)).run Tryd.prog w = .ok (.int .i64 (((i + 1) % 16 : Nat) : Int)) w :=
  match i, h with
  | 0, _ => by kernel_rfl
  | 1, _ => by kernel_rfl
  | 2, _ => by kernel_rfl
  | 3, _ => by kernel_rfl
  | 4, _ => by kernel_rfl
  | 5, _ => by kernel_rfl
  | 6, _ => by kernel_rfl
  | 7, _ => by kernel_rfl
  | 8, _ => by kernel_rfl
  | 9, _ => by kernel_rfl
  | 10, _ => by kernel_rfl
  | 11, _ => by kernel_rfl
  | 12, _ => by kernel_rfl
  | 13, _ => by kernel_rfl
  | 14, _ => by kernel_rfl
  | 15, _ => by kernel_rfl
  | _ + 16, h => absurd h (by omega)
theorem rem_nat (k n : Nat) (w : World) (hn : 0 < n) (hn2 : n ≤ 1000) : (binOp .rem 3 (.int .i64 (k : Int)) (.int .i64 (n : Int))).run Tryd.prog w = .ok (.int .i64 ((k % n : Nat) : Int)) w := by
  have h0 : ¬ n = 0 := by omega
  simp [binOp, Op.intDiv, h0]
  rw [Int.tmod_eq_emod_of_nonneg (by omega)]
/-- What the turned signature in block b is, and what is said of it. -/
def TurnR (V w : World) (b : Nat) (x : List UInt8) (M : Value) (j : Value) : Prop := ∃ (H J : Int) (v : Bool) (s1 s2 s3 : Value), j = .int .i64 J ∧ w.heap[b]? = some (.cells #[.int .i64 H, s1, s2, s3] 28 (0, 0)) ∧ (H = J ∨ v = false) ∧ V.grownBy w none ∧
  (∀ w', w.grownBy w' none → Calls Tryd.prog 10 #[.agg (x.map bv).toArray, .int .i64 J, M, .agg #[.int .i64 H, s1, s2, s3]] w' fun e w'' => e = .returned (.bool v) ∧ w'.grownBy w'' none) ∧
  (∀ w', w.grownBy w' none → Calls Tryd.prog 17 #[.agg (x.map bv).toArray, .int .i64 J, M, .agg #[.int .i64 H, s1, s2, s3]] w' fun e w'' => e = .returned (.bool v) ∧ w'.grownBy w'' none)
theorem turn_in {V w : World} {b : Nat} {x : List UInt8} (hx : x.length = 32) (hk : Laid2 w) (hV : V.grownBy w none) {A7 : Option Addr} {L : List UInt8} {N7 c7 : Nat} (hN : L.length = N7) (hr : RdB w A7 L) (hb : L.length ≤ 1000) {i : Nat} (hi : i < 16) {a1 c1 a2 c2 : Nat} {f g : Nat → List UInt8} (hf : ∀ i, (f i).length = 32) (hg : ∀ i, (g i).length = 32)
    {a3 o3 d c3 : Nat} {P : List UInt8} (hd : d ≤ 1000) (hP : P.length = d * 32) (hdc : d ≤ c3) (ho : d = 4 → o3 = 0) (h1 : RdB w (some ⟨a1, 0, none⟩) (partsF f 32)) (h2 : RdB w (some ⟨a2, 0, none⟩) (partsF g 32)) (h3 : RdB w (some ⟨a3, o3, none⟩) P)
    (hh : w.heap[b]? = some (.cells #[.int .i64 ((i : Int) + 1), .slice (some ⟨a1, 0, none⟩) 32 c1, .slice (some ⟨a2, 0, none⟩) 32 c2, .slice (some ⟨a3, o3, none⟩) d c3] 28 (0, 0))) : TurnR V w b x (.slice A7 N7 c7) (.int .i64 ((i : Int) + 1)) := by
  refine ⟨_, _, verR x L f g i P d, _, _, _, rfl, hh, .inl rfl, hV, fun w' hw => ?_, fun w' hw => ?_⟩
  · have h := Verify_in x hx i hi A7 L c7 a1 c1 a2 c2 f g hf hg a3 o3 d c3 P hP hdc ho w' (hk.kept hw) (hr.kept hw) hb (h1.kept hw) (h2.kept hw) (h3.kept hw)
    rw [hN, show ((i + 1 : Nat) : Int) = (i : Int) + 1 by omega] at h
    exact h
  · have h := RVerify_in x hx i hi A7 L c7 a1 c1 a2 c2 f g hf hg a3 o3 d c3 P hd hP hdc w' (hr.kept hw) hb (h1.kept hw) (h2.kept hw) (h3.kept hw)
    rw [hN, show ((i + 1 : Nat) : Int) = (i : Int) + 1 by omega] at h
    exact h
theorem turn_no {V w : World} {b : Nat} {x : List UInt8} (hV : V.grownBy w none) {A7 : Option Addr} {L : List UInt8} {N7 c7 : Nat} (hN : L.length = N7) (hr : RdB w A7 L) (hb : L.length ≤ 1000) {H J : Int} (hne : ¬ H = J) {a1 c1 a2 c2 : Nat} {f g : Nat → List UInt8} (hf : ∀ i, (f i).length = 32) (hg : ∀ i, (g i).length = 32)
    {a3 d c3 : Nat} (h1 : RdB w (some ⟨a1, 0, none⟩) (partsF f 32)) (h2 : RdB w (some ⟨a2, 0, none⟩) (partsF g 32))
    (hh : w.heap[b]? = some (.cells #[.int .i64 H, .slice (some ⟨a1, 0, none⟩) 32 c1, .slice (some ⟨a2, 0, none⟩) 32 c2, .slice (some ⟨a3, 0, none⟩) d c3] 28 (0, 0))) : TurnR V w b x (.slice A7 N7 c7) (.int .i64 J) := by
  refine ⟨H, J, false, _, _, _, rfl, hh, .inr rfl, hV, fun w' hw => ?_, fun w' hw => ?_⟩
  · exact Verify_no x J H (.inr (.inr hne)) A7 N7 c7 _ _ _ w'
  · have h := RVerify_no x J H hne A7 L c7 a1 c1 a2 c2 f g hf hg (some ⟨a3, 0, none⟩) d c3 w' (hr.kept hw) hb (h1.kept hw) (h2.kept hw)
    rw [hN] at h
    exact h
theorem wp_pick_no {P : Program} {o : Oper} {a : Act} {w : World} {K : Act → World → Prop} {Q : Exit → Act → World → Prop} {c x y : Operand} (ho : o.op = .pick c x y) (hc : a.eval c = .bool false) (h : K (a.put o.dst (a.eval y)) w) : Oper.wp P o a w K Q := by
  unfold Oper.wp execOp
  simp [ho, hc, asBool]
  exact h
theorem ne_block {w : World} {g b : Nat} {cs ds : Array Value} {t u : TypeId} (h1 : w.heap[g]? = some (.cells cs t (0, 0))) (h2 : w.heap[b]? = some (.cells ds u (0, 0))) (hne : t ≠ u) : g ≠ b := fun e => by
  rw [e, h2] at h1
  cases h1
  exact hne rfl
theorem set_at0 (a b c d v : Value) : #[a, b, c, d].setIfInBounds 0 v = #[v, b, c, d] := by kernel_rfl
theorem set_at1 (a b c d v : Value) : #[a, b, c, d].setIfInBounds 1 v = #[a, v, c, d] := by kernel_rfl
theorem set_at3 (a b c d v : Value) : #[a, b, c, d].setIfInBounds 3 v = #[a, b, c, v] := by kernel_rfl
end Go.Proofs.YtohdifimfhdhoaaDoor
