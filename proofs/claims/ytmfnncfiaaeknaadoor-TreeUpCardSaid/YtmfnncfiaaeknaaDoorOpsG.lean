/- What each kind of operation does, as a step of a region that draws its order and has guards; calls of the sums. -/
import Derived.Test.YtmfnncfiaaeknaaDoorTag
import Derived.Test.YtmfnncfiaaeknaaDoorBits
import Derived.Test.YtmfnncfiaaeknaaDoorRegion
namespace Go.Proofs.YtmfnncfiaaeknaaDoor
open Go.RowKit

section
variable {P : Program} {o : Oper} {a : Act} {w : World} {K : Act → World → Prop} {Q : Exit → Act → World → Prop}
theorem wp_move {x : Operand} (ho : o.op = .move x) (h : K (a.put o.dst (a.eval x)) w) : Oper.wp P o a w K Q := by
  unfold Oper.wp execOp; simp only [ho]; exact h
theorem wp_assign {x : Operand} (ho : o.op = .assign x) (h : K (a.put o.dst (a.eval x)) w) : Oper.wp P o a w K Q := by
  unfold Oper.wp execOp; simp only [ho]; exact h
theorem wp_lit {t : TypeId} {n : Nat} {parts : Array (Nat × Operand)} {v : Value} {w' : World} (ho : o.op = .buildSlice t n parts)
    (hrun : (Instr.buildSlice t n (parts.map fun (i, x) => (i, a.eval x))).run P w = .ok v w') (h : K (a.put o.dst v) w') : Oper.wp P o a w K Q := by
  unfold Oper.wp execOp; simp only [ho, Sem.run_bind, hrun, Result.andThen_ok, Sem.run_pure]; exact h
theorem wp_lit1 {t : TypeId} {x : Operand} {u v : Value} {w' : World} (ho : o.op = .buildSlice t 1 #[(0, x)]) (hu : a.eval x = u)
    (hrun : (Instr.buildSlice t 1 #[(0, u)]).run P w = .ok v w') (h : K (a.put o.dst v) w') : Oper.wp P o a w K Q :=
  wp_lit ho (by simpa [hu] using hrun) h
theorem enter_run {f : FuncId} {fn : Func} (hf : P.funcs[f]? = some fn) (hn : (fn.name == "runtime.NumGoroutine") = false) (hb : fn.body.isNone = false) (args : Array Value) (w : World) :
    (callFunc f args).run P w = .ok (.enter f args) w := by
  have hn' : ¬ fn.name = "runtime.NumGoroutine" := by simpa using hn
  have hb' : ¬ fn.body = none := by intro e; rw [e] at hb; cases hb
  simp [callFunc, run_program, hf, hn', hb']
theorem wp_call {f : FuncId} {fn : Func} {xs : Array Operand} {ts : Array TypeId} {args : Array Value} (ho : o.op = .call { callee := .value (.func f), args := xs, argTypes := ts })
    (hf : P.funcs[f]? = some fn) (hn : (fn.name == "runtime.NumGoroutine") = false) (hb : fn.body.isNone = false) (hx : xs.map a.eval = args)
    (h : Calls P f args w fun e w' => ∃ v, e = .returned v ∧ K (a.put o.dst v) w') : Oper.wp P o a w K Q := by
  obtain ⟨dst, op, ty, pos, after, guard⟩ := o
  simp only at ho
  subst ho
  unfold Oper.wp
  rw [execOp_call_go]
  have e : (#[] ++ xs.map a.eval ++ #[] : Array Value) = args := by simp [hx]
  rw [e, enter_run hf hn hb, Oper.upon_enter]
  exact h.mono fun e' w' ⟨v, he, hk⟩ => by subst he; exact hk
end

/-- 'append' on bytes. -/
theorem wp_appB {o : Oper} {a : Act} {w : World} {K : Act → World → Prop} {Q : Exit → Act → World → Prop} {s x : Operand}
    (ho : o.op = .call { callee := .builtin .append, args := #[s, x], argTypes := #[24, 24] })
    {v : Value} {l : List UInt8} (hv : a.eval s = v) (hown : OwnB w v l) {A : Option Addr} {m c : Nat} {news : List UInt8} (hx : a.eval x = .slice A m c) (hm : m = news.length) (hr : RdB w A news)
    (hb : l.length + news.length ≤ 140737488355328)
    (h : ∀ v' w', OwnB w' v' (l ++ news) → Grew w w' v v' → K (a.put o.dst v') w') : Oper.wp Tryd.prog o a w K Q := by
  obtain ⟨i, hi, hz, hs, hby⟩ := info_parts info_u8
  obtain ⟨base, hbase, hown⟩ := hown
  subst hm
  obtain ⟨v', w', hrun, h2, h3⟩ := run_append_rd (P := Tryd.prog) w (ty := o.type) (c := c) (news := news.map bv) Tryd.underlying24 hi hz hs hby rfl hown hr (bv_one _) (by simpa using hb) (by unfold maxLen; simp; omega) hbase
  rw [List.length_map] at hrun
  unfold Oper.wp execOp
  simp only [ho, resolve, invoke, builtin, Sem.run_bind, Sem.run_pure, Result.andThen_ok, List.map_toArray, List.map_cons, List.map_nil, hv, hx, hrun]
  refine h v' w' ⟨base, Nat.le_trans hbase h3.1.size, ?_⟩ h3
  rw [List.map_append]
  exact h2
/-- A hash's variable, loaded whole. -/
theorem wp_loadH {o : Oper} {a : Act} {w : World} {K : Act → World → Prop} {Q : Exit → Act → World → Prop} {x : Operand} (ho : o.op = .load 23 x)
    {g : Nat} (hx : a.eval x = .pointer (some ⟨g, 0, none⟩)) {y : List UInt8} (hy : y.length = 32) {t : TypeId} {fr : Nat × Nat} (hg : w.heap[g]? = some (.cells (y.map bv).toArray t fr))
    (h : K (a.put o.dst (.agg (y.map bv).toArray)) w) : Oper.wp Tryd.prog o a w K Q :=
  wp_load_row 23 x ho g hx t (y.map bv).toArray fr _ hg Tryd.underlying23 rfl (by rw [List.size_toArray, List.length_map, hy]; exact size_hash) h

/-! Facts that last. -/
theorem lasts_val (x : Value) : Lasts fun v _ => v = x := fun _ _ _ _ h _ _ => h
theorem lasts_own (l : List UInt8) : Lasts fun v w => OwnB w v l := fun _ _ _ _ h hg hne => h.keep hg hne
theorem lasts_rd (n : Nat) (xs : List Value) : Lasts fun v w => ∃ A c, v = .slice A n c ∧ RdAt w A xs := by
  rintro v w w' row ⟨A, c, rfl, h⟩ hg hne
  refine ⟨A, c, rfl, h.keep hg fun ad e er => ?_⟩
  subst e
  rcases hne with h1 | h1
  · cases h1
  · exact h1 er
section
variable {ops : Array Oper} {die : Nat → Nat} {own : Nat → Bool} {F : Nat → Value → World → Prop} {a0 : Act} {W : World}
variable {P : Program}
/-- The same, each step's end told by what it leaves. -/
theorem wp_region_go2 {N : Nat} {S : Nat → Bool} {id : Nat} {Q : Exit → Act → World → Prop} (hm : P.follows .mixedOrders = true) (hok : regionOk ops N S = true) (hN : N ≤ a0.tmps.size) (hF : ∀ k, Lasts (F k))
    (hstep : ∀ (i : Nat) (o : Oper) (L : Array Bool) (a : Act) (w : World) (K : Act → World → Prop), i < ops.size → ops[i]? = some o → W.grownBy w none → L.getD i false = false → (∀ k, ops.size ≤ k → L.getD k false = false) →
      (∀ j, (o.after.toList.any fun e => Region.binds .any e && e.on == j) = true → L.getD j false = true) →
      (∀ t, S t = false → a.eval (.tmp t) = a0.eval (.tmp t)) →
      (∀ k, k < ops.size → liveAt die L k → F k (a.eval (.tmp (slotOf ops k))) w) →
      (∀ (v : Value) (w' : World), w.grownBy w' none → F i v w' → (∀ g, v.ownBlock = some g → g < w'.heap.size) → Fresh own W i w none v → K (a.put o.dst v) w') →
      (∀ (k : Nat) (v : Value) (w' : World), k < ops.size → liveAt die L k → own k = true → die k = i → w.grownBy w' (a.eval (.tmp (slotOf ops k))).ownBlock →
        F i v w' → (∀ g, v.ownBlock = some g → g < w'.heap.size) → Fresh own W i w (a.eval (.tmp (slotOf ops k))).ownBlock v → K (a.put o.dst v) w') →
      Region.wanted o (yielded ops a.tmps) = true ∧ Oper.wp P o a w K Q)
    (hend : ∀ (a : Act) (w : World), W.grownBy w none → (∀ k, k < ops.size → ops.size ≤ die k → F k (a.eval (.tmp (slotOf ops k))) w ∧ (own k = true → ∀ g, (a.eval (.tmp (slotOf ops k))).ownBlock = some g → W.heap.size ≤ g)) →
      a = { tmps := (fill S (fun t => a.tmps.getD t undef) 0 a0.tmps.toList).toArray, defers := a0.defers } → Q .normal a w) :
    (Code.region id ops true).wp P Q a0 W := by
  refine wp_region_rep (die := die) (own := own) (F := F) hm (regionOk_back hok) rep_start ?_ ?_
  · intro i o L a w K hi ho hrep hLi hpre hK
    have hout : ∀ k : Nat, ops.size ≤ k → L.getD k false = false := by
      intro k hk
      have hk' : ¬ k < L.size := by rw [hrep.size]; omega
      simp [Array.getD, hk']
    refine hstep i o L a w K hi ho hrep.old hLi hout ?_ ?_ ?_ ?_ ?_
    · intro j hj
      obtain ⟨n, hn, hb, rfl⟩ : ∃ (n : Nat) (h : n < o.after.size), Region.binds Region.Mode.any o.after[n] = true ∧ o.after[n].on = j := by simpa using hj
      exact hpre _ (Array.getElem_mem hn) hb
    · intro t ht
      exact hrep.frame t fun k hk e => by
        have := (regionOk_slot hok hk).2.1
        rw [e, ht] at this
        cases this
    · intro k hk hl
      exact (hrep.item k hk hl).1
    · intro v w' hg hv hlt hnew
      exact hK _ _ (rep_go hok hN hF hrep hi ho hg (.inl rfl) hv hlt hnew)
    · intro k v w' hk hl hok' hd hg hv hlt hnew
      exact hK _ _ (rep_go hok hN hF hrep hi ho hg (.inr ⟨k, hk, hl, hok', hd, rfl⟩) hv hlt hnew)
  · intro L a w hl hrep
    refine hend a w hrep.old (fun k hk hd => ?_) (rep_frame hok hrep)
    have hlive : liveAt die L k := ⟨hl k hk, by
      have : ¬ die k < L.size := by rw [hrep.size]; omega
      simp [Array.getD, this]⟩
    exact ⟨(hrep.item k hk hlive).1, (hrep.item k hk hlive).2.2⟩
end

theorem wanted_of {ops : Array Oper} {o : Oper} {a : Act} {j s : Nat} (hg : o.guard = some (j, true)) (hd : (ops[j]?).bind (·.dst) = some s) (hv : a.eval (.tmp s) = .bool true) : Region.wanted o (yielded ops a.tmps) = true := by
  have h : a.tmps.getD s undef = .bool true := hv
  have h' : a.tmps[s]? = some (.bool true) := by
    by_cases hs : s < a.tmps.size
    · simp [Array.getD, hs] at h
      rw [Array.getElem?_eq_getElem hs, h]
    · simp [Array.getD, hs] at h
      cases h
  simp [Region.wanted, hg, yielded, hd, h']
theorem Fresh.old {own : Nat → Bool} {W : World} {i : Nat} {w : World} {row : Option Nat} {v : Value} (hi : own i = false) (h : ∀ g, v.ownBlock = some g → g < W.heap.size) : Fresh own W i w row v := by
  cases e : v.ownBlock with
  | none => exact .inl e
  | some g => exact .inr (.inr (.inr ⟨hi, g, e, h g e⟩))

section
variable {P : Program} {o : Oper} {a : Act} {w : World} {K : Act → World → Prop} {Q : Exit → Act → World → Prop}
theorem wp_pick {c x y : Operand} (ho : o.op = .pick c x y) (hc : a.eval c = .bool true) (h : K (a.put o.dst (a.eval x)) w) : Oper.wp P o a w K Q := by
  unfold Oper.wp execOp
  simp [ho, hc, asBool]
  exact h
end
section
variable {P : Program} {o : Oper} {a : Act} {w : World} {K : Act → World → Prop} {Q : Exit → Act → World → Prop}
theorem wp_slice_hi {t : TypeId} {x y : Operand} {xv yv v : Value} (ho : o.op = .slice t x none (some y) none) (hx : a.eval x = xv) (hy : a.eval y = yv)
    (hrun : (Instr.sliceAt t xv none (some yv) none).run P w = .ok v w) (h : K (a.put o.dst v) w) : Oper.wp P o a w K Q := by
  subst hx
  subst hy
  unfold Oper.wp execOp; simp only [ho, Option.map_none, Option.map_some, Sem.run_bind, hrun, Result.andThen_ok, Sem.run_pure]; exact h
theorem wp_slice_all {t : TypeId} {x : Operand} {xv v : Value} (ho : o.op = .slice t x none none none) (hx : a.eval x = xv)
    (hrun : (Instr.sliceAt t xv none none none).run P w = .ok v w) (h : K (a.put o.dst v) w) : Oper.wp P o a w K Q := by
  subst hx
  unfold Oper.wp execOp; simp only [ho, Option.map_none, Sem.run_bind, hrun, Result.andThen_ok, Sem.run_pure]; exact h
theorem wp_lit2 {t : TypeId} {x y : Operand} {u1 u2 v : Value} {w' : World} (ho : o.op = .buildSlice t 2 #[(0, x), (1, y)]) (hx : a.eval x = u1) (hy : a.eval y = u2)
    (hrun : (Instr.buildSlice t 2 #[(0, u1), (1, u2)]).run P w = .ok v w') (h : K (a.put o.dst v) w') : Oper.wp P o a w K Q :=
  wp_lit ho (by simpa [hx, hy] using hrun) h
theorem wp_lit0 {t : TypeId} {v : Value} {w' : World} (ho : o.op = .buildSlice t 0 #[])
    (hrun : (Instr.buildSlice t 0 #[]).run P w = .ok v w') (h : K (a.put o.dst v) w') : Oper.wp P o a w K Q :=
  wp_lit ho (by simpa using hrun) h
end

theorem lit_none (w : World) : (Instr.buildSlice 24 0 #[]).run Tryd.prog w = .ok (.slice (some ⟨w.heap.size, 0, none⟩) 0 0) (w.alloc (.cells #[] 5)) := by kernel_rfl
section
variable {o : Oper} {a : Act} {w : World} {K : Act → World → Prop} {Q : Exit → Act → World → Prop}
theorem wp_len {x : Operand} {t : TypeId} (ho : o.op = .call { callee := .builtin .len, args := #[x], argTypes := #[t] }) (ht : Tryd.prog.underlying t = some (.slice (Tryd.prog.elem t))) {A : Option Addr} {n c : Nat} (hx : a.eval x = .slice A n c)
    (h : K (a.put o.dst (.int .i64 n)) w) : Oper.wp Tryd.prog o a w K Q := by
  unfold Oper.wp execOp
  simp [ho, resolve, invoke, builtin, hx, run_len_slice (h := ht)]
  exact h
end
theorem lt_bool {v : Value} {b : Bool} (h : v = .bool b) {n : Nat} : ∀ g, v.ownBlock = some g → g < n := by
  subst h
  intro g e
  cases e
theorem Fresh.bool {own : Nat → Bool} {W : World} {i : Nat} {w : World} {row : Option Nat} {v : Value} {b : Bool} (h : v = .bool b) : Fresh own W i w row v := .inl (by rw [h]; rfl)
theorem lt_new (w : World) (o : Obj) {n c : Nat} : ∀ g, (Value.slice (some ⟨w.heap.size, 0, none⟩) n c).ownBlock = some g → g < (w.alloc o).heap.size := by
  intro g e
  cases e
  simp
theorem rd_of_own {w : World} {v : Value} {B l : List UInt8} (e : B = l) (h : OwnB w v l) : ∃ A c, v = .slice A B.length c ∧ RdAt w A (B.map bv) := by
  subst e
  obtain ⟨A, c, e, _, _, hr⟩ := h.slice
  exact ⟨A, c, e, hr⟩

theorem lt_val {v c : Value} (h : v = c) (hc : c.ownBlock = none) {n : Nat} : ∀ g, v.ownBlock = some g → g < n := by
  subst h
  intro g e
  rw [hc] at e
  cases e
theorem Fresh.val {own : Nat → Bool} {W : World} {i : Nat} {w : World} {row : Option Nat} {v c : Value} (h : v = c) (hc : c.ownBlock = none) : Fresh own W i w row v := .inl (by rw [h]; exact hc)
section
variable {P : Program} {o : Oper} {a : Act} {w : World} {K : Act → World → Prop} {Q : Exit → Act → World → Prop}
theorem wp_slice_lo {t : TypeId} {x y : Operand} {xv yv v : Value} (ho : o.op = .slice t x (some y) none none) (hx : a.eval x = xv) (hy : a.eval y = yv)
    (hrun : (Instr.sliceAt t xv (some yv) none none).run P w = .ok v w) (h : K (a.put o.dst v) w) : Oper.wp P o a w K Q := by
  subst hx
  subst hy
  unfold Oper.wp execOp; simp only [ho, Option.map_none, Option.map_some, Sem.run_bind, hrun, Result.andThen_ok, Sem.run_pure]; exact h
theorem wp_lit3 {t : TypeId} {x y z : Operand} {u1 u2 u3 v : Value} {w' : World} (ho : o.op = .buildSlice t 3 #[(0, x), (1, y), (2, z)]) (hx : a.eval x = u1) (hy : a.eval y = u2) (hz : a.eval z = u3)
    (hrun : (Instr.buildSlice t 3 #[(0, u1), (1, u2), (2, u3)]).run P w = .ok v w') (h : K (a.put o.dst v) w') : Oper.wp P o a w K Q :=
  wp_lit ho (by simpa [hx, hy, hz] using hrun) h
theorem wp_bin {op : BinOp} {t t2 : TypeId} {x y : Operand} {xv yv v : Value} (ho : o.op = .binOp op t x y t2) (hx : a.eval x = xv) (hy : a.eval y = yv)
    (hg : (eqGuard op t x y xv yv).run P w = .ok () w) (hrun : (binOp op t xv yv).run P w = .ok v w) (h : K (a.put o.dst v) w) : Oper.wp P o a w K Q := by
  subst hx
  subst hy
  unfold Oper.wp execOp
  simp [ho, hrun, hg]
  exact h
end

/-! ## Ints -/
theorem add_i64 (x y : Int) (w : World) (h : -9223372036854775808 ≤ x + y ∧ x + y ≤ 9223372036854775807) : (binOp .add 3 (.int .i64 x) (.int .i64 y)).run Tryd.prog w = .ok (.int .i64 (x + y)) w := by
  have e : (binOp .add 3 (.int .i64 x) (.int .i64 y)).run Tryd.prog w = .ok (.int .i64 (IntKind.i64.wrap (x + y))) w := by kernel_rfl
  rw [e, IntWalk.i64_in _ h]
theorem eql_i64 (x y : Int) (w : World) (h : x = y) : (binOp .eql 3 (.int .i64 x) (.int .i64 y)).run Tryd.prog w = .ok (.bool true) w := by
  subst h
  have e : (binOp .eql 3 (.int .i64 x) (.int .i64 x)).run Tryd.prog w = .ok (.bool (x == x)) w := by kernel_rfl
  rw [e, beq_self_eq_true]
theorem quo64_i64 (x : Int) (w : World) (h : 0 ≤ x ∧ x ≤ 9223372036854775807) : (binOp .quo 3 (.int .i64 x) (.int .i64 64)).run Tryd.prog w = .ok (.int .i64 (x / 64)) w := by
  have e : (binOp .quo 3 (.int .i64 x) (.int .i64 64)).run Tryd.prog w = .ok (.int .i64 (IntKind.i64.wrap (x.tdiv 64))) w := by kernel_rfl
  rw [e, IntWalk.i64_quo x 64 ⟨h.1, h.2, by decide⟩]
theorem guard_hash (x y : Operand) (cs ds : Array Value) (w : World) : (eqGuard .eql 23 x y (.agg cs) (.agg ds)).run Tryd.prog w = .ok () w := by kernel_rfl
theorem guard_int (x y : Operand) (m n : Int) (w : World) : (eqGuard .eql 3 x y (.int .i64 m) (.int .i64 n)).run Tryd.prog w = .ok () w := by kernel_rfl
theorem guard_add (x y : Operand) (xv yv : Value) (w : World) : (eqGuard .add 3 x y xv yv).run Tryd.prog w = .ok () w := by kernel_rfl
theorem guard_quo (x y : Operand) (xv yv : Value) (w : World) : (eqGuard .quo 3 x y xv yv).run Tryd.prog w = .ok () w := by kernel_rfl
theorem eqlH_true (x : List UInt8) (hx : x.length = 32) (w : World) : (binOp .eql 23 (.agg (x.map bv).toArray) (.agg (x.map bv).toArray)).run Tryd.prog w = .ok (.bool true) w := by
  rw [eql_hash x x hx hx w, beq_self_eq_true]

/-! ## Slices and literals -/
theorem sl_hiB (A : Option Addr) (n c k : Nat) (hk : k ≤ c) (w : World) : (Instr.sliceAt 24 (.slice A n c) none (some (.int .i64 (k : Int))) none).run Tryd.prog w = .ok (.slice A k c) w := by
  rw [run_sliceAt_slice (P := Tryd.prog) (w := w) (t := 24) (h := by kernel_rfl), run_slice_h (P := Tryd.prog) (w := w) (ht := by kernel_rfl) (h0 := by omega) (h2 := by omega)]
  have he : Tryd.prog.elem 24 = 5 := by kernel_rfl
  rw [he, sizeOf_u8, Result.andThen_ok]
  cases A with
  | none => simp [sliced]
  | some ad =>
    have e : ad.add 0 = ad := by unfold Addr.add; split <;> simp_all
    simp [sliced, e]
theorem sl_loB (A : Option Addr) (n c k : Nat) (hk : k ≤ n) (w : World) : (Instr.sliceAt 24 (.slice A n c) (some (.int .i64 (k : Int))) none none).run Tryd.prog w = .ok (.slice (if c = k then A else A.map (·.add k)) (n - k) (c - k)) w := by
  rw [run_sliceAt_slice (P := Tryd.prog) (w := w) (t := 24) (h := by kernel_rfl), run_slice_l (P := Tryd.prog) (w := w) (ht := by kernel_rfl) (h0 := by omega) (h1 := by omega)]
  have he : Tryd.prog.elem 24 = 5 := by kernel_rfl
  rw [he, sizeOf_u8, Result.andThen_ok]
  simp [sliced]
theorem lit_b1 (x : UInt8) (w : World) : (Instr.buildSlice 24 1 #[(0, .int .u8 (x.toNat : Int))]).run Tryd.prog w = .ok (.slice (some ⟨w.heap.size, 0, none⟩) 1 1) (w.alloc (.cells #[.int .u8 (x.toNat : Int)] 5)) := by kernel_rfl
theorem lit_p1 (p : Part) (w : World) : (Instr.buildSlice 38 1 #[(0, pv p)]).run Tryd.prog w = .ok (.slice (some ⟨w.heap.size, 0, none⟩) 1 1) (w.alloc (.cells #[pv p] 24)) := by kernel_rfl
theorem lit_p2 (p q : Part) (w : World) : (Instr.buildSlice 38 2 #[(0, pv p), (1, pv q)]).run Tryd.prog w = .ok (.slice (some ⟨w.heap.size, 0, none⟩) 2 2) (w.alloc (.cells #[pv p, pv q] 24)) := by kernel_rfl
theorem lit_p3 (p q r : Part) (w : World) : (Instr.buildSlice 38 3 #[(0, pv p), (1, pv q), (2, pv r)]).run Tryd.prog w = .ok (.slice (some ⟨w.heap.size, 0, none⟩) 3 3) (w.alloc (.cells #[pv p, pv q, pv r] 24)) := by kernel_rfl
theorem rd_lit (w : World) (vs : List Value) (n : Nat) (t : TypeId) (hn : vs.length = n) : ∃ A c, (Value.slice (some ⟨w.heap.size, 0, none⟩) n n) = .slice A vs.length c ∧ RdAt (w.alloc (.cells vs.toArray t)) A vs := by
  subst hn
  exact ⟨_, _, rfl, rd_row (heap_alloc_new _ _)⟩

/-! ## Calls -/
section
variable {o : Oper} {a : Act} {w : World} {K : Act → World → Prop} {Q : Exit → Act → World → Prop}
theorem wp_sum {x : Operand} {ts : Array TypeId} (ho : o.op = .call { callee := .value (.func 44), args := #[x], argTypes := ts })
    {A : Option Addr} {c n : Nat} {l : List UInt8} (hx : a.eval x = .slice A n c) (hr : RdB w A l) (e1 : n = l.length) (hc : n ≤ c) (hm : c ≤ maxLen) (hk : LaidK w) (hs : LaidS w) (hb : l.length ≤ 1000000000)
    (h : ∀ w', w.grownBy w' none → K (a.put o.dst (.agg ((sumL l).map bv).toArray)) w') : Oper.wp Tryd.prog o a w K Q := by
  subst e1
  refine wp_call ho Tryd.func44 (by kernel_rfl) (by kernel_rfl) (args := #[.slice A l.length c]) (by simp [hx]) ?_
  refine (Sum_any A l c w hk hs hr hc hm hb).mono ?_
  rintro e w' ⟨rfl, hg⟩
  exact ⟨_, rfl, h w' hg⟩
theorem wp_rsum {x : Operand} {ts : Array TypeId} (ho : o.op = .call { callee := .value (.func 42), args := #[x], argTypes := ts })
    {A : Option Addr} {c n : Nat} {l : List UInt8} (hx : a.eval x = .slice A n c) (hr : RdB w A l) (e1 : n = l.length) (hb : l.length ≤ 1000000000)
    (h : ∀ w', w.grownBy w' none → K (a.put o.dst (.agg ((sumL l).map bv).toArray)) w') : Oper.wp Tryd.prog o a w K Q := by
  subst e1
  refine wp_call ho Tryd.func42 (by kernel_rfl) (by kernel_rfl) (args := #[.slice A l.length c]) (by simp [hx]) ?_
  refine (RSum_any A l c w hr hb).mono ?_
  rintro e w' ⟨rfl, hg⟩
  exact ⟨_, rfl, h w' hg⟩
theorem wp_tag {x y : Operand} {ts : Array TypeId} (ho : o.op = .call { callee := .value (.func 38), args := #[x, y], argTypes := ts })
    {t : UInt8} {A : Option Addr} {c n : Nat} {ps : List Part} {l : List UInt8} (hx : a.eval x = .int .u8 (t.toNat : Int)) (hy : a.eval y = .slice A n c) (hA : RdP w A ps) (e1 : n = ps.length) (hl : catP ps = l) (hk : LaidK w) (hs : LaidS w) (hb : l.length ≤ 100000000) (hn : ps.length ≤ 100000000)
    (h : ∀ w', w.grownBy w' none → K (a.put o.dst (.agg ((tagL t l).map bv).toArray)) w') : Oper.wp Tryd.prog o a w K Q := by
  subst e1
  subst hl
  refine wp_call ho Tryd.func38 (by kernel_rfl) (by kernel_rfl) (args := #[.int .u8 (t.toNat : Int), .slice A ps.length c]) (by simp [hx, hy]) ?_
  refine (Tagged_any t A ps c w hk hs hA hb hn).mono ?_
  rintro e w' ⟨rfl, hg⟩
  exact ⟨_, rfl, h w' hg⟩
theorem wp_rtag {x y : Operand} {ts : Array TypeId} (ho : o.op = .call { callee := .value (.func 26), args := #[x, y], argTypes := ts })
    {t : UInt8} {A : Option Addr} {c n : Nat} {ps : List Part} {l : List UInt8} (hx : a.eval x = .int .u8 (t.toNat : Int)) (hy : a.eval y = .slice A n c) (hA : RdP w A ps) (e1 : n = ps.length) (hl : catP ps = l) (hb : l.length ≤ 100000000) (hn : ps.length ≤ 100000000)
    (h : ∀ w', w.grownBy w' none → K (a.put o.dst (.agg ((tagL t l).map bv).toArray)) w') : Oper.wp Tryd.prog o a w K Q := by
  subst e1
  subst hl
  refine wp_call ho Tryd.func26 (by kernel_rfl) (by kernel_rfl) (args := #[.int .u8 (t.toNat : Int), .slice A ps.length c]) (by simp [hx, hy]) ?_
  refine (RTagged_any t A ps c w hA hb hn).mono ?_
  rintro e w' ⟨rfl, hg⟩
  exact ⟨_, rfl, h w' hg⟩
theorem wp_blocks {x : Operand} {ts : Array TypeId} (ho : o.op = .call { callee := .value (.func 50), args := #[x], argTypes := ts })
    {m : Int} (hx : a.eval x = .int .i64 m) (hm : 0 ≤ m ∧ m ≤ 1000000000000) (h : K (a.put o.dst (.int .i64 ((m + 8) / 64 + 1))) w) : Oper.wp Tryd.prog o a w K Q := by
  refine wp_call ho Tryd.func50 (by kernel_rfl) (by kernel_rfl) (args := #[.int .i64 m]) (by simp [hx]) ?_
  refine (Blocks_i m w hm).mono ?_
  rintro e w' ⟨rfl, rfl⟩
  exact ⟨_, rfl, h⟩
end

theorem own_len {A : Option Addr} {n n' c c' : Nat} : (Value.slice A n c).ownBlock = (Value.slice A n' c').ownBlock := by cases A <;> rfl
theorem own_cut {A : Option Addr} {c k n' c' c'' g : Nat} {l : List UInt8} (h : (pv ((if c = k then A else A.map (·.add k), l, c') : Part)).ownBlock = some g) : (Value.slice A n' c'').ownBlock = some g := by
  cases A with
  | none => split at h <;> exact h
  | some ad =>
    split at h
    · exact h
    · have e : (pv ((Option.map (fun x => x.add k) (some ad), l, c') : Part)).ownBlock = some (ad.add k).block := rfl
      rw [e, add_block] at h
      exact h
end Go.Proofs.YtmfnncfiaaeknaaDoor
