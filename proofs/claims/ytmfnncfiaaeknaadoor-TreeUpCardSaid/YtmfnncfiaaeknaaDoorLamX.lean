/- Signatures as values: what they hold, and where; variables of the call's own. -/
import Derived.Test.YtmfnncfiaaeknaaDoorRegB
import Derived.Test.YtmfnncfiaaeknaaDoorLamT
namespace Go.Proofs.YtmfnncfiaaeknaaDoor
open Go.RowKit

/-- A signature's value, its parts read as f and g. -/
def SigAt (f g : Nat → List UInt8) (v : Value) (w : World) : Prop := ∃ g1 c1 g2 c2 : Nat, v = .agg #[.slice (some ⟨g1, 0, none⟩) 32 c1, .slice (some ⟨g2, 0, none⟩) 32 c2] ∧ 32 ≤ c1 ∧ c1 ≤ maxLen ∧ 32 ≤ c2 ∧ c2 ≤ maxLen ∧ RdB w (some ⟨g1, 0, none⟩) (partsF f 32) ∧ RdB w (some ⟨g2, 0, none⟩) (partsF g 32)
theorem LastsB.sig {al : Nat → Bool} {k : Nat} (ha : al k = false) (f g : Nat → List UInt8) : LastsB al k (SigAt f g) := by
  rintro v w w' row ⟨g1, c1, g2, c2, rfl, h1, h2, h3, h4, h5, h6⟩ hg hne
  have e : bl al k (.agg #[.slice (some ⟨g1, 0, none⟩) 32 c1, .slice (some ⟨g2, 0, none⟩) 32 c2]) = [g1, g2] := by simp [bl, ha, blocksOf, sliceBlocks]
  rw [e] at hne
  exact ⟨g1, c1, g2, c2, rfl, h1, h2, h3, h4, h5.keep hg (fun ad e => by cases e; exact hne g1 (by simp)), h6.keep hg (fun ad e => by cases e; exact hne g2 (by simp))⟩
theorem SigAt.kept {f g : Nat → List UInt8} {v : Value} {w w' : World} (h : SigAt f g v w) (hg : w.grownBy w' none) : SigAt f g v w' := by
  obtain ⟨g1, c1, g2, c2, e, h1, h2, h3, h4, h5, h6⟩ := h
  exact ⟨g1, c1, g2, c2, e, h1, h2, h3, h4, h5.kept hg, h6.kept hg⟩
theorem lt_of_part {w : World} {g : Nat} {f : Nat → List UInt8} (hf : ∀ i, (f i).length = 32) (h : RdB w (some ⟨g, 0, none⟩) (partsF f 32)) : g < w.heap.size := by
  have h1 := range_part hf h (k := 0) (by omega) 0 (bv ((f 0)[0]'(by rw [hf]; omega))) (by rw [List.getElem?_map, List.getElem?_eq_getElem (by rw [hf]; omega)]; rfl)
  exact World.block_lt_of_cell? w _ h1
theorem sig_of {s m : List UInt8} {w : World} {e : Ending} {w' : World} (h : ∃ g1 c1 g2 c2 : Nat, e = .returned (.agg #[.slice (some ⟨g1, 0, none⟩) 32 c1, .slice (some ⟨g2, 0, none⟩) 32 c2]) ∧ 32 ≤ c1 ∧ c1 ≤ maxLen ∧ 32 ≤ c2 ∧ c2 ≤ maxLen ∧ RdB w' (some ⟨g1, 0, none⟩) (partsF (openF s m) 32) ∧ RdB w' (some ⟨g2, 0, none⟩) (partsF (shutF s m) 32) ∧ w.grownBy w' none ∧ w.heap.size ≤ g1 ∧ w.heap.size ≤ g2) :
    ∃ v, e = .returned v ∧ SigAt (openF s m) (shutF s m) v w' ∧ w.grownBy w' none ∧ (∀ g ∈ blocksOf v, w.heap.size ≤ g) ∧ ∀ g ∈ blocksOf v, g < w'.heap.size := by
  obtain ⟨g1, c1, g2, c2, rfl, h1, h2, h3, h4, h5, h6, h7, h8, h9⟩ := h
  have e : blocksOf (.agg #[.slice (some ⟨g1, 0, none⟩) 32 c1, .slice (some ⟨g2, 0, none⟩) 32 c2]) = [g1, g2] := rfl
  refine ⟨_, rfl, ⟨g1, c1, g2, c2, rfl, h1, h2, h3, h4, h5, h6⟩, h7, ?_, ?_⟩
  · rw [e]; intro g hg
    simp only [List.mem_cons, List.not_mem_nil, or_false] at hg
    rcases hg with rfl | rfl <;> assumption
  · rw [e]; intro g hg
    simp only [List.mem_cons, List.not_mem_nil, or_false] at hg
    rcases hg with rfl | rfl
    · exact lt_of_part (openF_len s m) h5
    · exact lt_of_part (shutF_len s m) h6
theorem Sign_sig (s : List UInt8) (h32 : s.length = 32) (A : Option Addr) (m : List UInt8) (c : Nat) (w : World) (hk : Laid2 w) (hr : RdB w A m) (hb : m.length ≤ 1000) :
    Calls Tryd.prog 10 #[.agg (s.map bv).toArray, .slice A m.length c] w fun e w' => ∃ v, e = .returned v ∧ SigAt (openF s m) (shutF s m) v w' ∧ w.grownBy w' none ∧ (∀ g ∈ blocksOf v, w.heap.size ≤ g) ∧ ∀ g ∈ blocksOf v, g < w'.heap.size :=
  (Sign_any s h32 A m c w hk hr hb).mono fun _ _ h => sig_of h
/-- A row of parts is no small variable's block. -/
theorem part_ne {w : World} {g b : Nat} {f : Nat → List UInt8} (hf : ∀ i, (f i).length = 32) (h : RdB w (some ⟨g, 0, none⟩) (partsF f 32)) {C : Array Value} {t : TypeId} {fr : Nat × Nat} (hb : w.heap[b]? = some (.cells C t fr)) (hC : C.size ≤ 32) : g ≠ b := by
  rintro rfl
  have h1 := range_part hf h (k := 31) (by omega) 0 (bv ((f 31)[0]'(by rw [hf]; omega))) (by rw [List.getElem?_map, List.getElem?_eq_getElem (by rw [hf]; omega)]; rfl)
  rw [cell_of_row w g _ C t fr hb, Array.getElem?_eq_none (by omega)] at h1
  cases h1
theorem RdB.keepRow {w w' : World} {g b : Nat} {l : List UInt8} (h : RdB w (some ⟨g, 0, none⟩) l) (hg : w.grownBy w' (some b)) (hne : g ≠ b) : RdB w' (some ⟨g, 0, none⟩) l := h.keep hg (fun ad e => by cases e; simpa using hne)
theorem new_lt (w : World) (o : Obj) : ∀ g ∈ [w.heap.size], g < (w.alloc o).heap.size := by simp
theorem new_ge (w : World) : ∀ g ∈ [w.heap.size], w.heap.size ≤ g := by simp
theorem one_two (A1 A2 : Option Addr) (n1 c1 n2 c2 : Nat) : (#[Value.slice A1 n1 c1, Value.slice A2 n2 c2] : Array Value).all (·.oneCell') = true := by simp [Value.oneCell']
theorem tuple_two {a b c d : Value} (h : Value.tuple #[a, b] = .tuple #[c, d]) : a = c ∧ b = d := by
  injection h with h
  simpa using h
theorem wanted_not {ops : Array Oper} {o : Oper} {a : Act} {j s : Nat} (hg : o.guard = some (j, false)) (hd : (ops[j]?).bind (·.dst) = some s) (hv : a.eval (.tmp s) = .bool false) : Region.wanted o (yielded ops a.tmps) = true := by
  have h : a.tmps.getD s undef = .bool false := hv
  have h' : a.tmps[s]? = some (.bool false) := by
    by_cases hs : s < a.tmps.size
    · simp [Array.getD, hs] at h
      rw [Array.getElem?_eq_getElem hs, h]
    · simp [Array.getD, hs] at h
      cases h
  simp [Region.wanted, hg, yielded, hd, h']
theorem index_hs (g n c k : Nat) (hk : k < n) (w : World) : (Instr.indexAt 26 (.slice (some ⟨g, 0, none⟩) n c) (.int .i64 (k : Int))).run Tryd.prog w = .ok (.pointer (some ⟨g, k * 32, none⟩)) w := by
  have h := run_indexAt_slice (P := Tryd.prog) (w := w) 26 ⟨g, 0, none⟩ n c .i64 (k : Int) (by kernel_rfl)
  rw [h, if_pos ⟨by omega, by omega⟩, show (sizeOf (Tryd.prog.elem 26)).run Tryd.prog w = .ok 32 w from by kernel_rfl, Result.andThen_ok, Int.toNat_natCast, Addr.add_mid, Nat.zero_add]
theorem wp_index {P : Program} {o : Oper} {a : Act} {w : World} {K : Act → World → Prop} {Q : Exit → Act → World → Prop} {t : TypeId} {x y : Operand} {xv yv v : Value} (ho : o.op = .indexAddr t x y) (hx : a.eval x = xv) (hy : a.eval y = yv) (hrun : (Instr.indexAt t xv yv).run P w = .ok v w) (h : K (a.put o.dst v) w) : Oper.wp P o a w K Q := by
  unfold Oper.wp execOp
  simp only [ho, hx, hy, Sem.run_bind, hrun, Result.andThen_ok, Sem.run_pure]
  exact h
end Go.Proofs.YtmfnncfiaaeknaaDoor
