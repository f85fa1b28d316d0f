/- More kinds of operations, as steps of a region that draws its order. -/
import Derived.Test.YthccbbdabfpjcaaGuard
namespace Go.Proofs.Ythccbbdabfpjcaa
open Go.RowKit

section
variable {P : Program} {o : Oper} {a : Act} {w : World} {K : Act → World → Prop} {Q : Exit → Act → World → Prop}
theorem wp_slice_hi {t : TypeId} {x y : Operand} {xv yv v : Value} (ho : o.op = .slice t x none (some y) none) (hx : a.eval x = xv) (hy : a.eval y = yv)
    (hrun : (Instr.sliceAt t xv none (some yv) none).run P w = .ok v w) (h : K (a.put o.dst v) w) : Oper.wp P o a w K Q := by
  subst hx
  subst hy
  unfold Oper.wp execOp; simp only [ho, Option.map_none, Option.map_some, Sem.run_bind, hrun, Result.andThen_ok, Sem.run_pure]; exact h
theorem wp_slice_all {t : TypeId} {x : Operand} {xv v : Value} (ho : o.op = .slice t x none none none) (hx : a.eval x = xv)
    (hrun : (Instr.sliceAt t xv none none none).run P w = .ok v w) (h : K (a.put o.dst v) w) : Oper.wp P o a w K Q := by
  subst hx
  unfold Oper.wp execOp; simp only [ho, Option.map_none, Sem.run_bind, hrun, Result.andThen_ok, Sem.run_pure]; exact h
theorem wp_lit2 {t : TypeId} {x y : Operand} {u1 u2 v : Value} {w' : World} (ho : o.op = .buildSlice t 2 #[(0, x), (1, y)]) (hx : a.eval x = u1) (hy : a.eval y = u2)
    (hrun : (Instr.buildSlice t 2 #[(0, u1), (1, u2)]).run P w = .ok v w') (h : K (a.put o.dst v) w') : Oper.wp P o a w K Q :=
  wp_lit ho (by simpa [hx, hy] using hrun) h
theorem wp_lit0 {t : TypeId} {v : Value} {w' : World} (ho : o.op = .buildSlice t 0 #[])
    (hrun : (Instr.buildSlice t 0 #[]).run P w = .ok v w') (h : K (a.put o.dst v) w') : Oper.wp P o a w K Q :=
  wp_lit ho (by simpa using hrun) h
end

theorem sizeOf_int (w : World) : (sizeOf 3).run Try.prog w = .ok 1 w := by kernel_rfl
theorem sl_int (A : Option Addr) (n c k : Nat) (hk : k ≤ c) (w : World) : (Instr.sliceAt 30 (.slice A n c) none (some (.int .i64 (k : Int))) none).run Try.prog w = .ok (.slice A k c) w := by
  rw [run_sliceAt_slice (P := Try.prog) (w := w) (t := 30) (h := by kernel_rfl), run_slice_h (P := Try.prog) (w := w) (ht := by kernel_rfl) (h0 := by omega) (h2 := by omega)]
  have he : Try.prog.elem 30 = 3 := by kernel_rfl
  rw [he, sizeOf_int, Result.andThen_ok]
  cases A with
  | none => simp [sliced]
  | some ad =>
    have e : ad.add 0 = ad := by unfold Addr.add; split <;> simp_all
    simp [sliced, e]
theorem sl_hash (g : Nat) (w : World) : (Instr.sliceAt 33 (.pointer (some ⟨g, 0, none⟩)) none none none).run Try.prog w = .ok (.slice (some ⟨g, 0, none⟩) 32 32) w := by kernel_rfl
theorem lit_none (w : World) : (Instr.buildSlice 24 0 #[]).run Try.prog w = .ok (.slice (some ⟨w.heap.size, 0, none⟩) 0 0) (w.alloc (.cells #[] 5)) := by kernel_rfl
theorem lit_two32 (b0 b1 b2 b3 b4 b5 b6 b7 b8 b9 b10 b11 b12 b13 b14 b15 b16 b17 b18 b19 b20 b21 b22 b23 b24 b25 b26 b27 b28 b29 b30 b31 : UInt8) (w : World) : (Instr.buildSlice 55 2 #[(0, .agg ([b0, b1, b2, b3, b4, b5, b6, b7, b8, b9, b10, b11, b12, b13, b14, b15, b16, b17, b18, b19, b20, b21, b22, b23, b24, b25, b26, b27, b28, b29, b30, b31].map bv).toArray), (1, .agg ([b0, b1, b2, b3, b4, b5, b6, b7, b8, b9, b10, b11, b12, b13, b14, b15, b16, b17, b18, b19, b20, b21, b22, b23, b24, b25, b26, b27, b28, b29, b30, b31].map bv).toArray)]).run Try.prog w = .ok (.slice (some ⟨w.heap.size, 0, none⟩) 2 2) (w.alloc (.cells (([b0, b1, b2, b3, b4, b5, b6, b7, b8, b9, b10, b11, b12, b13, b14, b15, b16, b17, b18, b19, b20, b21, b22, b23, b24, b25, b26, b27, b28, b29, b30, b31] ++ [b0, b1, b2, b3, b4, b5, b6, b7, b8, b9, b10, b11, b12, b13, b14, b15, b16, b17, b18, b19, b20, b21, b22, b23, b24, b25, b26, b27, b28, b29, b30, b31]).map bv).toArray 33)) := by kernel_rfl
theorem lit_two (y : List UInt8) (hy : y.length = 32) (w : World) : (Instr.buildSlice 55 2 #[(0, .agg (y.map bv).toArray), (1, .agg (y.map bv).toArray)]).run Try.prog w = .ok (.slice (some ⟨w.heap.size, 0, none⟩) 2 2) (w.alloc (.cells ((y ++ y).map bv).toArray 33)) :=
  match y, hy with
  | [b0, b1, b2, b3, b4, b5, b6, b7, b8, b9, b10, b11, b12, b13, b14, b15, b16, b17, b18, b19, b20, b21, b22, b23, b24, b25, b26, b27, b28, b29, b30, b31], _ => lit_two32 b0 b1 b2 b3 b4 b5 b6 b7 b8 b9 b10 b11 b12 b13 b14 b15 b16 b17 b18 b19 b20 b21 b22 b23 b24 b25 b26 b27 b28 b29 b30 b31 w
theorem rdH_two (w : World) (y : List UInt8) (hy : y.length = 32) (t : TypeId) : RdH (w.alloc (.cells ((y ++ y).map bv).toArray t)) (some ⟨w.heap.size, 0, none⟩) [y, y] := by
  refine .inr ⟨_, rfl, fun k x hx j u hu => ?_⟩
  have hr : RdB (w.alloc (.cells ((y ++ y).map bv).toArray t)) (some ⟨w.heap.size, 0, none⟩) (y ++ y) := rd_row (heap_alloc_new w _)
  rcases hr with e | ⟨ad, e, hc⟩
  · have : y = [] := by simpa using e
    rw [this] at hy
    cases hy
  · injection e with e
    subst e
    have hj : j < (x.map bv).length := (List.getElem?_eq_some_iff.1 hu).1
    match k, hx with
    | 0, hx =>
      simp only [List.getElem?_cons_zero, Option.some.injEq] at hx
      subst hx
      rw [add_add]
      exact hc _ u (by rw [List.map_append, List.getElem?_append_left (by simpa using hj)]; simpa using hu)
    | 1, hx =>
      simp only [List.getElem?_cons_succ, List.getElem?_cons_zero, Option.some.injEq] at hx
      subst hx
      rw [add_add]
      exact hc _ u (by rw [List.map_append, List.getElem?_append_right (by simp [hy]), List.length_map, hy]; simpa using hu)
    | k + 2, hx => simp at hx

section
variable {o : Oper} {a : Act} {w : World} {K : Act → World → Prop} {Q : Exit → Act → World → Prop}
theorem wp_len {x : Operand} {t : TypeId} (ho : o.op = .call { callee := .builtin .len, args := #[x], argTypes := #[t] }) (ht : Try.prog.underlying t = some (.slice (Try.prog.elem t))) {A : Option Addr} {n c : Nat} (hx : a.eval x = .slice A n c)
    (h : K (a.put o.dst (.int .i64 n)) w) : Oper.wp Try.prog o a w K Q := by
  unfold Oper.wp execOp
  simp [ho, resolve, invoke, builtin, hx, run_len_slice (h := ht)]
  exact h
theorem wp_puts {x : Operand} {ts : Array TypeId} (ho : o.op = .call { callee := .value (.func 12), args := #[x], argTypes := ts })
    {A : Option Addr} {c n : Nat} {l : List Int} (hx : a.eval x = .slice A n c) (hr : RdI w A l) (e1 : n = l.length) (hb : l.length ≤ 1000000000) (h : ∀ v w', OwnB w' v (putsL l) → Grew w w' (.slice none 0 0) v → K (a.put o.dst v) w') : Oper.wp Try.prog o a w K Q := by
  subst e1
  refine wp_call ho Try.func12 (by kernel_rfl) (by kernel_rfl) (args := #[.slice A l.length c]) (by simp [hx]) ?_
  refine (Put_any A c l w hr hb).mono ?_
  rintro e w' ⟨v, rfl, h1, h2⟩
  exact ⟨v, rfl, h v w' h1 h2⟩
theorem wp_texts {x : Operand} {ts : Array TypeId} (ho : o.op = .call { callee := .value (.func 14), args := #[x], argTypes := ts })
    {A : Option Addr} {c n : Nat} {l : List (List UInt8)} (hx : a.eval x = .slice A n c) (hr : RdS w A l) (e1 : n = l.length) (hb : l.length ≤ 10000) (hs : ∀ s ∈ l, s.length ≤ 100000) (h : ∀ v w', OwnB w' v (textsL l) → Grew w w' (.slice none 0 0) v → K (a.put o.dst v) w') : Oper.wp Try.prog o a w K Q := by
  subst e1
  refine wp_call ho Try.func14 (by kernel_rfl) (by kernel_rfl) (args := #[.slice A l.length c]) (by simp [hx]) ?_
  refine (Text_any A c l w hr hb hs).mono ?_
  rintro e w' ⟨v, rfl, h1, h2⟩
  exact ⟨v, rfl, h v w' h1 h2⟩
theorem wp_hash2 {x : Operand} {ts : Array TypeId} (ho : o.op = .call { callee := .value (.func 19), args := #[x], argTypes := ts })
    {A : Option Addr} {c : Nat} {y : List UInt8} (hx : a.eval x = .slice A 2 c) (hr : RdH w A [y, y]) (hy : y.length = 32) (h : ∀ v w', OwnB w' v (y ++ y) → Grew w w' (.slice none 0 0) v → K (a.put o.dst v) w') : Oper.wp Try.prog o a w K Q := by
  refine wp_call ho Try.func19 (by kernel_rfl) (by kernel_rfl) (args := #[.slice A 2 c]) (by simp [hx]) ?_
  refine (Hash_any A c [y, y] w hr (by simp) (by simpa using hy)).mono ?_
  rintro e w' ⟨v, rfl, h1, h2⟩
  exact ⟨v, rfl, h v w' (by simpa [hashesL] using h1) h2⟩
theorem wp_intact {x y z : Operand} {ts : Array TypeId} (ho : o.op = .call { callee := .value (.func 18), args := #[x, y, z], argTypes := ts })
    {A1 A2 : Option Addr} {c1 c2 n1 n2 : Nat} {l : List Int} {mark : Int} (hx : a.eval x = .slice A1 n1 c1) (hy : a.eval y = .slice A2 n2 c2) (hz : a.eval z = .int .i64 mark) (h1 : RdI w A1 (l ++ List.replicate 80 mark)) (h2 : RdI w A2 l)
    (e1 : n1 = l.length + 80) (e2 : n2 = l.length) (hc : n1 ≤ c1) (hm : c1 ≤ maxLen) (hl : l.length ≤ 10000000) (h : ∀ w', w.grownBy w' none → K (a.put o.dst (.bool true)) w') : Oper.wp Try.prog o a w K Q := by
  subst e2
  refine wp_call ho Try.func18 (by kernel_rfl) (by kernel_rfl) (args := #[.slice A1 n1 c1, .slice A2 l.length c2, .int .i64 mark]) (by simp [hx, hy, hz]) ?_
  refine (IntactI_any A1 A2 l n1 c1 c2 mark w h1 h2 e1 hc hm hl).mono ?_
  rintro e w' ⟨rfl, hg⟩
  exact ⟨_, rfl, h w' hg⟩
theorem wp_runs (ho : o.op = .call { callee := .value (.func 3), args := #[], argTypes := #[] }) (h : ∀ w', w.grownBy w' none → K (a.put o.dst (.bool true)) w') : Oper.wp Try.prog o a w K Q := by
  refine wp_call ho Try.func3 (by kernel_rfl) (by kernel_rfl) (args := #[]) (by simp) ?_
  refine (VintRuns_any w).mono ?_
  rintro e w' ⟨rfl, hg⟩
  exact ⟨_, rfl, h w' hg⟩
theorem wp_sameB {x y : Operand} {ts : Array TypeId} (ho : o.op = .call { callee := .value (.func 11), args := #[x, y], argTypes := ts })
    {A1 A2 : Option Addr} {c1 c2 n1 n2 : Nat} {l : List UInt8} (hx : a.eval x = .slice A1 n1 c1) (hy : a.eval y = .slice A2 n2 c2) (h1 : RdB w A1 l) (h2 : RdB w A2 l) (e1 : n1 = l.length) (e2 : n2 = l.length) (hm : l.length ≤ maxLen)
    (h : ∀ w', w.grownBy w' none → K (a.put o.dst (.bool true)) w') : Oper.wp Try.prog o a w K Q := by
  refine wp_call ho Try.func11 (by kernel_rfl) (by kernel_rfl) (args := #[.slice A1 n1 c1, .slice A2 n2 c2]) (by simp [hx, hy]) ?_
  refine (sameB_true A1 A2 l l n1 n2 c1 c2 w h1 h2 e1 e2 hm rfl).mono ?_
  rintro e w' ⟨rfl, hg⟩
  exact ⟨_, rfl, h w' hg⟩
end
end Go.Proofs.Ythccbbdabfpjcaa
