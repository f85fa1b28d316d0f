/- More kinds of operations in a region whose order is drawn: bytes appended, slices of hashes, parts. -/
import Derived.Test.YtepnhepaihpnoaaDoorLmTells
namespace Go.Proofs.YtepnhepaihpnoaaDoor
open Go.RowKit

theorem wp_min {P : Program} {o : Oper} {a : Act} {w : World} {K : Act → World → Prop} {Q : Exit → Act → World → Prop} {x y : Operand} {ts : Array TypeId} {p q m : Int} (ho : o.op = .call { callee := .builtin .min, args := #[x, y], argTypes := ts }) (hx : a.eval x = .int .i64 p) (hy : a.eval y = .int .i64 q)
    (hm : (if q < p then q else p) = m) (h : K (a.put o.dst (.int .i64 m)) w) : Oper.wp P o a w K Q := by
  unfold Oper.wp execOp
  simp [ho, resolve, invoke, builtin, hx, hy, run_min_int2, hm]
  exact h
theorem own_mem {w : World} {u : Value} {l : List UInt8} (h : OwnB w u l) : ∀ g, u.ownBlock = some g → g ∈ blocksOf u := by
  obtain ⟨A, c, rfl, _⟩ := h.slice
  intro g e
  cases A with
  | none => cases e
  | some ad =>
    have e' : ad.block = g := by simpa [Value.ownBlock] using e
    rw [← e']; exact List.mem_singleton.2 rfl
theorem mem_own {w : World} {u : Value} {l : List UInt8} (h : OwnB w u l) : ∀ g ∈ blocksOf u, u.ownBlock = some g := by
  obtain ⟨A, c, rfl, _⟩ := h.slice
  intro g e
  cases A with
  | none => cases e
  | some ad =>
    have e' : g ∈ [ad.block] := e
    rw [List.mem_singleton] at e'
    rw [e']; rfl
theorem own_lt {w : World} {u : Value} {l : List UInt8} (h : OwnB w u l) : ∀ g ∈ blocksOf u, g < w.heap.size := fun g e => h.lt g (mem_own h g e)
theorem grew_blocks {w w' : World} {u v : Value} {l l' : List UInt8} {p : Nat → Prop} (hu : OwnB w u l) (hv : OwnB w' v l') (hw : Grew w w' u v) : ∀ g ∈ blocksOf v, w.heap.size ≤ g ∨ g ∈ blocksOf u ∨ p g := by
  intro g e
  have e1 := mem_own hv g e
  rcases hw.2 with e2 | ⟨g', e2, h⟩
  · exact .inr (.inl (own_mem hu g (by rw [← e2, e1])))
  · rw [e1] at e2; cases e2; exact .inl h
theorem LastsB.ownB {al : Nat → Bool} {k : Nat} (ha : al k = false) (l : List UInt8) : LastsB al k fun v w => OwnB w v l := LastsB.of ha (lasts_own l)
theorem sl_arr (g o : Nat) (w : World) : (Instr.sliceAt 23 (.pointer (some ⟨g, o, none⟩)) none none none).run Tryd.prog w = .ok (.slice (some ⟨g, o, none⟩) 32 32) w := by kernel_rfl
theorem rd_range {w : World} {g o : Nat} {l : List UInt8} (h : w.rangeAt g o (l.map bv)) : RdB w (some ⟨g, o, none⟩) l := .inr ⟨_, rfl, fun j u hu => by rw [Addr.add_mid]; exact h j u hu⟩
/-- A row of parts of one. -/
def Part1 (p : Part) (v : Value) (w : World) : Prop := ∃ b, v = .slice (some ⟨b, 0, none⟩) 1 1 ∧ RdAt w (some ⟨b, 0, none⟩) [pv p]
theorem LastsB.part1 {al : Nat → Bool} {k : Nat} (ha : al k = false) (p : Part) : LastsB al k (Part1 p) := by
  rintro v w w' row ⟨b, rfl, h⟩ hg hne
  exact ⟨b, rfl, h.keep hg (fun ad e => by cases e; exact hne b (by simp [bl, ha, blocksOf]))⟩
end Go.Proofs.YtepnhepaihpnoaaDoor
