/- Kinds of operations in a region whose order is drawn: bytes and hashes appended, slices of hashes, parts, structs built (what stage 3's laws share). -/
import Derived.Test.YtmfnncfiaaeknaaDoorLamY
import Derived.Test.YtmfnncfiaaeknaaDoorLamH
import Derived.Test.YtmfnncfiaaeknaaDoorWithin
import Derived.Deep.RegionHeld3
import Derived.Deep.Cut
namespace Go.Proofs.YtmfnncfiaaeknaaDoor
open Go.RowKit

theorem wp_not {P : Program} {o : Oper} {a : Act} {w : World} {K : Act → World → Prop} {Q : Exit → Act → World → Prop} {t : TypeId} {x : Operand} {b : Bool} (ho : o.op = .unOp .not t x) (hx : a.eval x = .bool b) (h : K (a.put o.dst (.bool (!b))) w) : Oper.wp P o a w K Q := by
  unfold Oper.wp execOp
  simp [ho, hx, Op.unary]
  exact h
theorem blocks_two {g h n m c d W : Nat} (h1 : g < W) (h2 : h < W) : ∀ x ∈ blocksOf (.agg #[.slice (some ⟨g, 0, none⟩) n c, .slice (some ⟨h, 0, none⟩) m d]), x < W := by
  intro x e
  have e' : x ∈ [g, h] := e
  simp only [List.mem_cons, List.not_mem_nil, or_false] at e'
  rcases e' with rfl | rfl <;> assumption
theorem blocks_one {g n c W : Nat} (h1 : g < W) : ∀ x ∈ blocksOf (.slice (some ⟨g, 0, none⟩) n c), x < W := by
  intro x e
  have e' : x ∈ [g] := e
  rw [List.mem_singleton] at e'
  subst e'; exact h1
theorem blocks_own {w : World} {A : Option Addr} {n c : Nat} {l : List UInt8} (h : OwnB w (.slice A n c) l) : ∀ x ∈ blocksOf (.slice A n c), x < w.heap.size := by
  intro x e
  cases A with
  | none => cases e
  | some ad =>
    have e' : x ∈ [ad.block] := e
    rw [List.mem_singleton] at e'
    exact h.lt x (by rw [e']; rfl)
theorem wp_min {P : Program} {o : Oper} {a : Act} {w : World} {K : Act → World → Prop} {Q : Exit → Act → World → Prop} {x y : Operand} {ts : Array TypeId} {p q m : Int} (ho : o.op = .call { callee := .builtin .min, args := #[x, y], argTypes := ts }) (hx : a.eval x = .int .i64 p) (hy : a.eval y = .int .i64 q)
    (hm : (if q < p then q else p) = m) (h : K (a.put o.dst (.int .i64 m)) w) : Oper.wp P o a w K Q := by
  unfold Oper.wp execOp
  simp [ho, resolve, invoke, builtin, hx, hy, run_min_int2, hm]
  exact h
theorem own_mem {w : World} {u : Value} {l : List UInt8} (h : OwnB w u l) : ∀ g, u.ownBlock = some g → g ∈ blocksOf u := by
  obtain ⟨A, c, rfl, _⟩ := h.slice
  intro g e
  cases A with
  | none => cases e
  | some ad =>
    have e' : ad.block = g := by simpa [Value.ownBlock] using e
    rw [← e']; exact List.mem_singleton.2 rfl
theorem mem_own {w : World} {u : Value} {l : List UInt8} (h : OwnB w u l) : ∀ g ∈ blocksOf u, u.ownBlock = some g := by
  obtain ⟨A, c, rfl, _⟩ := h.slice
  intro g e
  cases A with
  | none => cases e
  | some ad =>
    have e' : g ∈ [ad.block] := e
    rw [List.mem_singleton] at e'
    rw [e']; rfl
theorem own_lt {w : World} {u : Value} {l : List UInt8} (h : OwnB w u l) : ∀ g ∈ blocksOf u, g < w.heap.size := fun g e => h.lt g (mem_own h g e)
theorem grew_blocks {w w' : World} {u v : Value} {l l' : List UInt8} {p : Nat → Prop} (hu : OwnB w u l) (hv : OwnB w' v l') (hw : Grew w w' u v) : ∀ g ∈ blocksOf v, w.heap.size ≤ g ∨ g ∈ blocksOf u ∨ p g := by
  intro g e
  have e1 := mem_own hv g e
  rcases hw.2 with e2 | ⟨g', e2, h⟩
  · exact .inr (.inl (own_mem hu g (by rw [← e2, e1])))
  · rw [e1] at e2; cases e2; exact .inl h
theorem LastsB.ownB {al : Nat → Bool} {k : Nat} (ha : al k = false) (l : List UInt8) : LastsB al k fun v w => OwnB w v l := LastsB.of ha (lasts_own l)
theorem sl_arr (g o : Nat) (w : World) : (Instr.sliceAt 23 (.pointer (some ⟨g, o, none⟩)) none none none).run Tryd.prog w = .ok (.slice (some ⟨g, o, none⟩) 32 32) w := by kernel_rfl
theorem rd_range {w : World} {g o : Nat} {l : List UInt8} (h : w.rangeAt g o (l.map bv)) : RdB w (some ⟨g, o, none⟩) l := .inr ⟨_, rfl, fun j u hu => by rw [Addr.add_mid]; exact h j u hu⟩
/-- A row of parts of one. -/
def Part1 (p : Part) (v : Value) (w : World) : Prop := ∃ b, v = .slice (some ⟨b, 0, none⟩) 1 1 ∧ RdAt w (some ⟨b, 0, none⟩) [pv p]
theorem LastsB.part1 {al : Nat → Bool} {k : Nat} (ha : al k = false) (p : Part) : LastsB al k (Part1 p) := by
  rintro v w w' row ⟨b, rfl, h⟩ hg hne
  exact ⟨b, rfl, h.keep hg (fun ad e => by cases e; exact hne b (by simp [bl, ha, blocksOf]))⟩
theorem pubL_tag (s : List UInt8) (i v : Nat) : pubL s i v = tagL 112 (secretL s i v) := by unfold pubL publicL; exact Eq.refl _
theorem blocks_off {g o n c W : Nat} (h1 : g < W) : ∀ x ∈ blocksOf (.slice (some ⟨g, o, none⟩) n c), x < W := by
  intro x e
  have e' : x ∈ [g] := e
  rw [List.mem_singleton] at e'
  subst e'; exact h1
theorem guard_hneq (x y : Operand) (cs ds : Array Value) (w : World) : (eqGuard .neq 23 x y (.agg cs) (.agg ds)).run Tryd.prog w = .ok () w := by kernel_rfl
theorem neqH_false (x : List UInt8) (hx : x.length = 32) (w : World) : (binOp .neq 23 (.agg (x.map bv).toArray) (.agg (x.map bv).toArray)).run Tryd.prog w = .ok (.bool false) w := by
  rw [neq_hash x x hx hx w, beq_self_eq_true]; rfl
theorem LastsB.ownH {al : Nat → Bool} {k : Nat} (ha : al k = false) (l : List UInt8) (n : Nat) : LastsB al k fun v w => OwnHs w v l n := LastsB.of ha fun _ _ _ _ h hg hne => h.keep hg hne
theorem ownH_block {w : World} {u : Value} {l : List UInt8} {n : Nat} (h : OwnHs w u l n) : u = .slice none 0 0 ∨ ∃ g c, u = .slice (some ⟨g, 0, none⟩) n c := by
  obtain ⟨base, hb, _, h⟩ := h
  rcases h with ⟨rfl, _⟩ | ⟨g, cap, cur, rfl, _⟩
  · exact .inl rfl
  · exact .inr ⟨g, cap, rfl⟩
theorem ownH_mem {w : World} {u : Value} {l : List UInt8} {n : Nat} (h : OwnHs w u l n) : ∀ g, u.ownBlock = some g → g ∈ blocksOf u := by
  intro g e
  rcases ownH_block h with rfl | ⟨g', c, rfl⟩
  · cases e
  · have e' : g' = g := by simpa [Value.ownBlock] using e
    rw [← e']; exact List.mem_singleton.2 rfl
theorem memH_own {w : World} {u : Value} {l : List UInt8} {n : Nat} (h : OwnHs w u l n) : ∀ g ∈ blocksOf u, u.ownBlock = some g := by
  intro g e
  rcases ownH_block h with rfl | ⟨g', c, rfl⟩
  · cases e
  · have e' : g ∈ [g'] := e
    rw [List.mem_singleton] at e'
    rw [e']; rfl
theorem ownH_lt {w : World} {u : Value} {l : List UInt8} {n : Nat} (h : OwnHs w u l n) : ∀ g ∈ blocksOf u, g < w.heap.size := fun g e => h.lt g (memH_own h g e)
theorem grewH_blocks {w w' : World} {u v : Value} {l l' : List UInt8} {n n' : Nat} {p : Nat → Prop} (hu : OwnHs w u l n) (hv : OwnHs w' v l' n') (hw : Grew w w' u v) : ∀ g ∈ blocksOf v, w.heap.size ≤ g ∨ g ∈ blocksOf u ∨ p g := by
  intro g e
  have e1 := memH_own hv g e
  rcases hw.2 with e2 | ⟨g', e2, h⟩
  · exact .inr (.inl (ownH_mem hu g (by rw [← e2, e1])))
  · rw [e1] at e2; cases e2; exact .inl h
theorem lit_noneH (w : World) : (Instr.buildSlice 26 0 #[]).run Tryd.prog w = .ok (.slice (some ⟨w.heap.size, 0, none⟩) 0 0) (w.alloc (.cells #[] 23)) := by kernel_rfl
theorem ownH_new (w : World) : OwnHs (w.alloc (.cells #[] 23)) (.slice (some ⟨w.heap.size, 0, none⟩) 0 0) [] 0 :=
  ⟨0, Nat.zero_le _, by simp, .inr ⟨w.heap.size, 0, #[], rfl, Nat.zero_le _, heap_alloc_new _ _, Nat.le_refl _, Nat.zero_le _, rfl, rfl⟩⟩
theorem sl_hiH (A : Option Addr) (n c k : Nat) (hk : k ≤ c) (w : World) : (Instr.sliceAt 26 (.slice A n c) none (some (.int .i64 (k : Int))) none).run Tryd.prog w = .ok (.slice A k c) w := by
  rw [run_sliceAt_slice (P := Tryd.prog) (w := w) (t := 26) (h := by kernel_rfl), run_slice_h (P := Tryd.prog) (w := w) (ht := by kernel_rfl) (h0 := by omega) (h2 := by omega)]
  rw [show (sizeOf (Tryd.prog.elem 26)).run Tryd.prog w = .ok 32 w from by kernel_rfl, Result.andThen_ok]
  cases A with
  | none => simp [sliced]
  | some ad =>
    have e : ad.add 0 = ad := by unfold Addr.add; split <;> simp_all
    simp [sliced, e]
theorem wp_build2 {P : Program} {o : Oper} {a : Act} {w : World} {K : Act → World → Prop} {Q : Exit → Act → World → Prop} {t : TypeId} {x y : Operand} {u1 u2 v : Value} (ho : o.op = .build t #[(0, x), (1, y)]) (hx : a.eval x = u1) (hy : a.eval y = u2)
    (hrun : (Instr.build t #[(0, u1), (1, u2)]).run P w = .ok v w) (h : K (a.put o.dst v) w) : Oper.wp P o a w K Q := by
  unfold Oper.wp execOp
  simp only [ho, List.map_toArray, List.map_cons, List.map_nil, hx, hy, Sem.run_bind, hrun, Result.andThen_ok, Sem.run_pure]
  exact h
theorem wp_build0 {P : Program} {o : Oper} {a : Act} {w : World} {K : Act → World → Prop} {Q : Exit → Act → World → Prop} {t : TypeId} {v : Value} (ho : o.op = .build t #[])
    (hrun : (Instr.build t #[]).run P w = .ok v w) (h : K (a.put o.dst v) w) : Oper.wp P o a w K Q := by
  unfold Oper.wp execOp
  simp only [ho, List.map_toArray, List.map_nil, Sem.run_bind, hrun, Result.andThen_ok, Sem.run_pure]
  exact h
theorem build_two (A : Option Addr) (n c : Nat) (B : Option Addr) (m d : Nat) (w : World) : (Instr.build 28 #[(0, .slice A n c), (1, .slice B m d)]).run Tryd.prog w = .ok (.agg #[.slice A n c, .slice B m d]) w := by kernel_rfl
theorem build_zero (w : World) : (Instr.build 28 #[]).run Tryd.prog w = .ok (.agg #[.slice none 0 0, .slice none 0 0]) w := by kernel_rfl
theorem neqZ (w : World) : (binOp .neq 23 (.agg (zeroH.map bv).toArray) (.agg #[.int .u8 0, .int .u8 0, .int .u8 0, .int .u8 0, .int .u8 0, .int .u8 0, .int .u8 0, .int .u8 0, .int .u8 0, .int .u8 0, .int .u8 0, .int .u8 0, .int .u8 0, .int .u8 0, .int .u8 0, .int .u8 0, .int .u8 0, .int .u8 0, .int .u8 0, .int .u8 0, .int .u8 0, .int .u8 0, .int .u8 0, .int .u8 0, .int .u8 0, .int .u8 0, .int .u8 0, .int .u8 0, .int .u8 0, .int .u8 0, .int .u8 0, .int .u8 0])).run Tryd.prog w = .ok (.bool false) w := by
  have h := neq_hash zeroH zeroH rfl rfl w
  rw [beq_self_eq_true] at h
  exact h
theorem one_new (w : World) (C : Array Value) (S : Array Value) (w' : World) (h : (w.alloc (.cells C 28)).setRow w.heap.size S = w') : w'.heap[w.heap.size]? = some (.cells S 28 (0, 0)) ∧ w.grownBy w' none := by
  subst h
  exact ⟨setRow_heap _ _ _ _ _ _ (alloc_at rfl), grown_setRow (grown_alloc (grown_refl _ _) _) (.inr (Nat.le_refl _)) _⟩
end Go.Proofs.YtmfnncfiaaeknaaDoor
