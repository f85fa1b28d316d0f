/- The kit of stage 5's great laws: signatures of heights as values of a region. -/
import Derived.Test.YtohdifimfhdhoaaDoorRingR
namespace Go.Proofs.YtohdifimfhdhoaaDoor
open Go.RowKit

theorem alloc_S (w : World) : (Instr.alloc 28 true (.tuple #[])).run Tryd.prog w = .ok (.pointer (some ⟨w.heap.size, 0, none⟩)) (w.alloc (.cells #[.int .i64 0, .slice none 0 0, .slice none 0 0, .slice none 0 0] 28)) := by kernel_rfl
theorem LastsB.sigV {al : Nat → Bool} {k : Nat} (ha : al k = false) (n0 : Nat) (s m : List UInt8) (i : Nat) : LastsB al k fun v w => SigV w n0 s m i v := by
  rintro v w w' row ⟨g1, c1, g2, c2, g3, c3, rfl, a1, a2, a3, a4, a5, a6, r1, r2, r3, n⟩ hg hne
  have e : bl al k (.agg #[.int .i64 ((i + 1 : Nat) : Int), .slice (some ⟨g1, 0, none⟩) 32 c1, .slice (some ⟨g2, 0, none⟩) 32 c2, .slice (some ⟨g3, 0, none⟩) 4 c3]) = [g1, g2, g3] := by simp [bl, ha, blocksOf, sliceBlocks]
  rw [e] at hne
  exact ⟨g1, c1, g2, c2, g3, c3, rfl, a1, a2, a3, a4, a5, a6, r1.keep hg (fun ad e => by cases e; exact hne g1 (by simp)), r2.keep hg (fun ad e => by cases e; exact hne g2 (by simp)), r3.keep hg (fun ad e => by cases e; exact hne g3 (by simp)), n⟩
theorem lt_of_rd {w : World} {g o : Nat} {P : List UInt8} (h : RdB w (some ⟨g, o, none⟩) P) (hP : 0 < P.length) : g < w.heap.size := by
  obtain ⟨ad, e, hc⟩ := h.resolve_left (by simp; exact List.ne_nil_of_length_pos hP)
  cases e
  have := World.block_lt_of_cell? w _ (hc 0 (bv P[0]) (by rw [List.getElem?_map, List.getElem?_eq_getElem hP]; rfl))
  rwa [add_block] at this
theorem sig_to {w : World} {s m : List UInt8} {i : Nat} {e : Ending} {w' : World} (hi : i < 16) (h : SigR w s m i e w') : ∃ v, e = .returned v ∧ SigV w' w.heap.size s m i v ∧ w.grownBy w' none ∧ (∀ g ∈ blocksOf v, w.heap.size ≤ g) ∧ ∀ g ∈ blocksOf v, g < w'.heap.size := by
  obtain ⟨v, rfl, h, hg⟩ := h
  have h0 := h
  obtain ⟨g1, c1, g2, c2, g3, c3, rfl, a1, a2, a3, a4, a5, a6, r1, r2, r3, n1, n2, n3⟩ := h
  have e : blocksOf (.agg #[.int .i64 ((i + 1 : Nat) : Int), .slice (some ⟨g1, 0, none⟩) 32 c1, .slice (some ⟨g2, 0, none⟩) 32 c2, .slice (some ⟨g3, 0, none⟩) 4 c3]) = [g1, g2, g3] := rfl
  have l1 := lt_of_part (openF_len _ _) r1
  have l2 := lt_of_part (shutF_len _ _) r2
  have l3 := lt_of_rd r3 (by rw [pathR_len s i hi]; omega)
  refine ⟨_, rfl, h0, hg, ?_, ?_⟩
  · rw [e]; intro g hg; simp only [List.mem_cons, List.not_mem_nil, or_false] at hg; rcases hg with rfl | rfl | rfl <;> assumption
  · rw [e]; intro g hg; simp only [List.mem_cons, List.not_mem_nil, or_false] at hg; rcases hg with rfl | rfl | rfl <;> assumption
theorem wp_pickN {P : Program} {o : Oper} {a : Act} {w : World} {K : Act → World → Prop} {Q : Exit → Act → World → Prop} {c x y : Operand} (ho : o.op = .pick c x y) (hc : a.eval c = .bool false) (h : K (a.put o.dst (a.eval y)) w) : Oper.wp P o a w K Q := by
  unfold Oper.wp execOp
  simp [ho, hc, asBool]
  exact h
theorem field_S0p (g : Nat) (w : World) : (Instr.fieldAt 28 (.pointer (some ⟨g, 0, none⟩)) 0).run Tryd.prog w = .ok (.pointer (some ⟨g, 0, none⟩)) w := by kernel_rfl
theorem cell_at0 {w : World} {g : Nat} {a b c d : Value} {t : TypeId} {fr : Nat × Nat} (h : w.heap[g]? = some (.cells #[a, b, c, d] t fr)) : w.cell? ⟨g, 0, none⟩ = some a := by rw [cell_of_row _ _ _ _ _ _ h]; rfl
theorem cell_at1 {w : World} {g : Nat} {a b c d : Value} {t : TypeId} {fr : Nat × Nat} (h : w.heap[g]? = some (.cells #[a, b, c, d] t fr)) : w.cell? ⟨g, 1, none⟩ = some b := by rw [cell_of_row _ _ _ _ _ _ h]; rfl
theorem cell_at2 {w : World} {g : Nat} {a b c d : Value} {t : TypeId} {fr : Nat × Nat} (h : w.heap[g]? = some (.cells #[a, b, c, d] t fr)) : w.cell? ⟨g, 2, none⟩ = some c := by rw [cell_of_row _ _ _ _ _ _ h]; rfl
theorem neI {i j : Nat} (h : i ≠ j) : ¬ (i : Int) + 1 = (j : Int) + 1 := by omega
theorem eql_no (x y : Int) (w : World) (h : ¬ x = y) : (binOp .eql 3 (.int .i64 x) (.int .i64 y)).run Tryd.prog w = .ok (.bool false) w := by
  have e : (binOp .eql 3 (.int .i64 x) (.int .i64 y)).run Tryd.prog w = .ok (.bool (x == y)) w := by kernel_rfl
  rw [e, beq_eq_false_iff_ne.2 h]
theorem Sign_to (s : List UInt8) (h32 : s.length = 32) (i : Nat) (hi : i < 16) (M : Option Addr) (m : List UInt8) (cm : Nat) (w : World) (hk : Laid2 w) (hm : RdB w M m) (hb : m.length ≤ 1000) :
    Calls Tryd.prog 8 #[.agg (s.map bv).toArray, .int .i64 ((i : Int) + 1), .slice M m.length cm] w fun e w' => ∃ v, e = .returned v ∧ SigV w' w.heap.size s m i v ∧ w.grownBy w' none ∧ (∀ g ∈ blocksOf v, w.heap.size ≤ g) ∧ ∀ g ∈ blocksOf v, g < w'.heap.size := by
  have h := Sign_in s h32 i hi M m cm w hk hm hb
  rw [show ((i + 1 : Nat) : Int) = (i : Int) + 1 by omega] at h
  exact h.mono fun _ _ h => sig_to hi h
theorem RSealed_to (s : List UInt8) (h32 : s.length = 32) (i : Nat) (hi : i < 16) (M : Option Addr) (m : List UInt8) (cm : Nat) (w : World) (hm : RdB w M m) (hb : m.length ≤ 1000) :
    Calls Tryd.prog 12 #[.agg (s.map bv).toArray, .int .i64 ((i : Int) + 1), .slice M m.length cm] w fun e w' => ∃ v, e = .returned v ∧ SigV w' w.heap.size s m i v ∧ w.grownBy w' none ∧ (∀ g ∈ blocksOf v, w.heap.size ≤ g) ∧ ∀ g ∈ blocksOf v, g < w'.heap.size := by
  have h := RSealed_any s h32 i hi M m cm w hm hb
  rw [show ((i + 1 : Nat) : Int) = (i : Int) + 1 by omega] at h
  exact h.mono fun _ _ h => sig_to hi h
end Go.Proofs.YtohdifimfhdhoaaDoor
