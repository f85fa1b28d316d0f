/- What each kind of operation does, as a step of a region that draws its order. -/
import Derived.Test.YthccbbdabfpjcaaOwn
import Derived.Test.YthccbbdabfpjcaaRuns
import Derived.Test.YthccbbdabfpjcaaRegion
namespace Go.Proofs.Ythccbbdabfpjcaa
open Go.RowKit

section
variable {P : Program} {o : Oper} {a : Act} {w : World} {K : Act → World → Prop} {Q : Exit → Act → World → Prop}
theorem wp_move {x : Operand} (ho : o.op = .move x) (h : K (a.put o.dst (a.eval x)) w) : Oper.wp P o a w K Q := by
  unfold Oper.wp execOp; simp only [ho]; exact h
theorem wp_assign {x : Operand} (ho : o.op = .assign x) (h : K (a.put o.dst (a.eval x)) w) : Oper.wp P o a w K Q := by
  unfold Oper.wp execOp; simp only [ho]; exact h
theorem wp_lit {t : TypeId} {n : Nat} {parts : Array (Nat × Operand)} {v : Value} {w' : World} (ho : o.op = .buildSlice t n parts)
    (hrun : (Instr.buildSlice t n (parts.map fun (i, x) => (i, a.eval x))).run P w = .ok v w') (h : K (a.put o.dst v) w') : Oper.wp P o a w K Q := by
  unfold Oper.wp execOp; simp only [ho, Sem.run_bind, hrun, Result.andThen_ok, Sem.run_pure]; exact h
theorem wp_lit1 {t : TypeId} {x : Operand} {u v : Value} {w' : World} (ho : o.op = .buildSlice t 1 #[(0, x)]) (hu : a.eval x = u)
    (hrun : (Instr.buildSlice t 1 #[(0, u)]).run P w = .ok v w') (h : K (a.put o.dst v) w') : Oper.wp P o a w K Q :=
  wp_lit ho (by simpa [hu] using hrun) h
theorem enter_run {f : FuncId} {fn : Func} (hf : P.funcs[f]? = some fn) (hn : (fn.name == "runtime.NumGoroutine") = false) (hb : fn.body.isNone = false) (args : Array Value) (w : World) :
    (callFunc f args).run P w = .ok (.enter f args) w := by
  have hn' : ¬ fn.name = "runtime.NumGoroutine" := by simpa using hn
  have hb' : ¬ fn.body = none := by intro e; rw [e] at hb; cases hb
  simp [callFunc, run_program, hf, hn', hb']
theorem wp_call {f : FuncId} {fn : Func} {xs : Array Operand} {ts : Array TypeId} {args : Array Value} (ho : o.op = .call { callee := .value (.func f), args := xs, argTypes := ts })
    (hf : P.funcs[f]? = some fn) (hn : (fn.name == "runtime.NumGoroutine") = false) (hb : fn.body.isNone = false) (hx : xs.map a.eval = args)
    (h : Calls P f args w fun e w' => ∃ v, e = .returned v ∧ K (a.put o.dst v) w') : Oper.wp P o a w K Q := by
  obtain ⟨dst, op, ty, pos, after, guard⟩ := o
  simp only at ho
  subst ho
  unfold Oper.wp
  rw [execOp_call_go]
  have e : (#[] ++ xs.map a.eval ++ #[] : Array Value) = args := by simp [hx]
  rw [e, enter_run hf hn hb, Oper.upon_enter]
  exact h.mono fun e' w' ⟨v, he, hk⟩ => by subst he; exact hk
end

theorem lit_int (x : Int) (w : World) : (Instr.buildSlice 30 1 #[(0, .int .i64 x)]).run Try.prog w = .ok (.slice (some ⟨w.heap.size, 0, none⟩) 1 1) (w.alloc (.cells #[.int .i64 x] 3)) := by kernel_rfl
theorem lit_str (s : ByteArray) (w : World) : (Instr.buildSlice 31 1 #[(0, .string s)]).run Try.prog w = .ok (.slice (some ⟨w.heap.size, 0, none⟩) 1 1) (w.alloc (.cells #[.string s] 9)) := by kernel_rfl

theorem wp_Put1 {o : Oper} {a : Act} {w : World} {K : Act → World → Prop} {Q : Exit → Act → World → Prop} {x : Operand} {ts : Array TypeId} (ho : o.op = .call { callee := .value (.func 12), args := #[x], argTypes := ts })
    {A : Option Addr} {c : Nat} {n : Int} (hx : a.eval x = .slice A 1 c) (hr : RdI w A [n]) (h : ∀ v w', OwnB w' v (putL n) → Grew w w' (.slice none 0 0) v → K (a.put o.dst v) w') : Oper.wp Try.prog o a w K Q := by
  refine wp_call ho Try.func12 (by kernel_rfl) (by kernel_rfl) (args := #[.slice A 1 c]) (by simp [hx]) ?_
  refine (Put1_any A c n w hr).mono ?_
  rintro e w' ⟨v, rfl, h1, h2⟩
  exact ⟨v, rfl, h v w' h1 h2⟩
theorem wp_Text1 {o : Oper} {a : Act} {w : World} {K : Act → World → Prop} {Q : Exit → Act → World → Prop} {x : Operand} {ts : Array TypeId} (ho : o.op = .call { callee := .value (.func 14), args := #[x], argTypes := ts })
    {A : Option Addr} {c : Nat} {s : List UInt8} (hx : a.eval x = .slice A 1 c) (hr : RdS w A [s]) (hs : s.length ≤ 100000) (h : ∀ v w', OwnB w' v (textL s) → Grew w w' (.slice none 0 0) v → K (a.put o.dst v) w') : Oper.wp Try.prog o a w K Q := by
  refine wp_call ho Try.func14 (by kernel_rfl) (by kernel_rfl) (args := #[.slice A 1 c]) (by simp [hx]) ?_
  refine (Text1_any A c s w hr hs).mono ?_
  rintro e w' ⟨v, rfl, h1, h2⟩
  exact ⟨v, rfl, h v w' h1 h2⟩
theorem wp_Hash1 {o : Oper} {a : Act} {w : World} {K : Act → World → Prop} {Q : Exit → Act → World → Prop} {x : Operand} {ts : Array TypeId} (ho : o.op = .call { callee := .value (.func 19), args := #[x], argTypes := ts })
    {A : Option Addr} {c : Nat} {y : List UInt8} (hx : a.eval x = .slice A 1 c) (hr : RdH w A [y]) (hy : y.length = 32) (h : ∀ v w', OwnB w' v y → Grew w w' (.slice none 0 0) v → K (a.put o.dst v) w') : Oper.wp Try.prog o a w K Q := by
  refine wp_call ho Try.func19 (by kernel_rfl) (by kernel_rfl) (args := #[.slice A 1 c]) (by simp [hx]) ?_
  refine (Hash_any A c [y] w hr (by simp) (by simpa using hy)).mono ?_
  rintro e w' ⟨v, rfl, h1, h2⟩
  exact ⟨v, rfl, h v w' (by simpa [hashesL] using h1) h2⟩
/-- 'append' on bytes. -/
theorem wp_appB {o : Oper} {a : Act} {w : World} {K : Act → World → Prop} {Q : Exit → Act → World → Prop} {s x : Operand}
    (ho : o.op = .call { callee := .builtin .append, args := #[s, x], argTypes := #[24, 24] })
    {v : Value} {l : List UInt8} (hv : a.eval s = v) (hown : OwnB w v l) {A : Option Addr} {m c : Nat} {news : List UInt8} (hx : a.eval x = .slice A m c) (hm : m = news.length) (hr : RdB w A news)
    (hb : l.length + news.length ≤ 140737488355328)
    (h : ∀ v' w', OwnB w' v' (l ++ news) → Grew w w' v v' → K (a.put o.dst v') w') : Oper.wp Try.prog o a w K Q := by
  obtain ⟨i, hi, hz, hs, hby⟩ := info_parts info_u8
  obtain ⟨base, hbase, hown⟩ := hown
  subst hm
  obtain ⟨v', w', hrun, h2, h3⟩ := run_append_rd (P := Try.prog) w (ty := o.type) (c := c) (news := news.map bv) Try.underlying24 hi hz hs hby rfl hown hr (bv_one _) (by simpa using hb) (by unfold maxLen; simp; omega) hbase
  rw [List.length_map] at hrun
  unfold Oper.wp execOp
  simp only [ho, resolve, invoke, builtin, Sem.run_bind, Sem.run_pure, Result.andThen_ok, List.map_toArray, List.map_cons, List.map_nil, hv, hx, hrun]
  refine h v' w' ⟨base, Nat.le_trans hbase h3.1.size, ?_⟩ h3
  rw [List.map_append]
  exact h2
/-- A hash's variable, loaded whole. -/
theorem wp_loadH {o : Oper} {a : Act} {w : World} {K : Act → World → Prop} {Q : Exit → Act → World → Prop} {x : Operand} (ho : o.op = .load 33 x)
    {g : Nat} (hx : a.eval x = .pointer (some ⟨g, 0, none⟩)) {y : List UInt8} (hy : y.length = 32) {t : TypeId} {fr : Nat × Nat} (hg : w.heap[g]? = some (.cells (y.map bv).toArray t fr))
    (h : K (a.put o.dst (.agg (y.map bv).toArray)) w) : Oper.wp Try.prog o a w K Q :=
  wp_load_row 33 x ho g hx t (y.map bv).toArray fr _ hg Try.underlying33 rfl (by rw [List.size_toArray, List.length_map, hy]; exact size_hash) h

theorem lit_hash32 (b0 b1 b2 b3 b4 b5 b6 b7 b8 b9 b10 b11 b12 b13 b14 b15 b16 b17 b18 b19 b20 b21 b22 b23 b24 b25 b26 b27 b28 b29 b30 b31 : UInt8) (w : World) : (Instr.buildSlice 55 1 #[(0, .agg ([b0, b1, b2, b3, b4, b5, b6, b7, b8, b9, b10, b11, b12, b13, b14, b15, b16, b17, b18, b19, b20, b21, b22, b23, b24, b25, b26, b27, b28, b29, b30, b31].map bv).toArray)]).run Try.prog w = .ok (.slice (some ⟨w.heap.size, 0, none⟩) 1 1) (w.alloc (.cells ([b0, b1, b2, b3, b4, b5, b6, b7, b8, b9, b10, b11, b12, b13, b14, b15, b16, b17, b18, b19, b20, b21, b22, b23, b24, b25, b26, b27, b28, b29, b30, b31].map bv).toArray 33)) := by kernel_rfl
theorem lit_hash (y : List UInt8) (hy : y.length = 32) (w : World) : (Instr.buildSlice 55 1 #[(0, .agg (y.map bv).toArray)]).run Try.prog w = .ok (.slice (some ⟨w.heap.size, 0, none⟩) 1 1) (w.alloc (.cells (y.map bv).toArray 33)) :=
  match y, hy with
  | [b0, b1, b2, b3, b4, b5, b6, b7, b8, b9, b10, b11, b12, b13, b14, b15, b16, b17, b18, b19, b20, b21, b22, b23, b24, b25, b26, b27, b28, b29, b30, b31], _ => lit_hash32 b0 b1 b2 b3 b4 b5 b6 b7 b8 b9 b10 b11 b12 b13 b14 b15 b16 b17 b18 b19 b20 b21 b22 b23 b24 b25 b26 b27 b28 b29 b30 b31 w

/-! Facts that last. -/
theorem lasts_val (x : Value) : Lasts fun v _ => v = x := fun _ _ _ _ h _ _ => h
theorem lasts_own (l : List UInt8) : Lasts fun v w => OwnB w v l := fun _ _ _ _ h hg hne => h.keep hg hne
theorem lasts_rd (n : Nat) (xs : List Value) : Lasts fun v w => ∃ A c, v = .slice A n c ∧ RdAt w A xs := by
  rintro v w w' row ⟨A, c, rfl, h⟩ hg hne
  refine ⟨A, c, rfl, h.keep hg fun ad e er => ?_⟩
  subst e
  rcases hne with h1 | h1
  · cases h1
  · exact h1 er
theorem lasts_rdH (n : Nat) (hs : List (List UInt8)) : Lasts fun v w => ∃ A c, v = .slice A n c ∧ RdH w A hs := by
  rintro v w w' row ⟨A, c, rfl, h⟩ hg hne
  refine ⟨A, c, rfl, h.keep hg fun ad e er => ?_⟩
  subst e
  rcases hne with h1 | h1
  · cases h1
  · exact h1 er
theorem rdH_new (w : World) (y : List UInt8) (t : TypeId) : RdH (w.alloc (.cells (y.map bv).toArray t)) (some ⟨w.heap.size, 0, none⟩) [y] := by
  refine .inr ⟨_, rfl, fun k x hx j u hu => ?_⟩
  match k, hx with
  | 0, hx =>
    simp only [List.getElem?_cons_zero, Option.some.injEq] at hx
    subst hx
    rcases rd_row (heap_alloc_new w (.cells (y.map bv).toArray t)) with h | ⟨ad, e, hc⟩
    · rw [h] at hu; cases hu
    · injection e with e
      subst e
      simpa [add_add] using hc j u hu
  | k + 1, hx => simp at hx
end Go.Proofs.Ythccbbdabfpjcaa
