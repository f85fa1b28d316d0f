/- The document's own block: the contract of affiantref1.block. The document's own SHA-256: the contract of affiantref1.Sum. Tagged sums: the contracts of package sha's Tagged and of the document's own. What each kind of operation does, as a step of a region that draws its order and has guards; calls of the sums. What an argument is: a byte; a list of lists of bytes. What an argument is: a list of hashes. -/
import Derived.Test.YtjdfnohlgeoniaaKB
import Derived.Laws.MakeOwn
import Derived.Test.YtjdfnohlgeoniaaKA
import Derived.LaidMore
namespace Go.Proofs.Ytjdfnohlgeoniaa
open Go.RowKit

theorem i64_nat (n m : Nat) (z : Int) (h : z = (m : Int)) (hm : m ≤ n) (hn : n ≤ 1000000000000) : IntKind.i64.wrap z = (m : Int) := by
  subst h; exact IntWalk.i64_in _ ⟨by omega, by omega⟩
theorem cell_st {w : World} {g : Nat} {s : St} {t : TypeId} {fr : Nat × Nat} (h : w.heap[g]? = some (.cells (s.cells.map wv).toArray t fr)) (j : Nat) (hj : j < 8) : w.cell? ⟨g, j, none⟩ = some (.int .u32 ((s.cells.getD j 0).toNat : Int)) := by
  rw [cell_of_row w _ _ _ _ _ h]
  exact St.cells_get s j hj
theorem add_get (s r : St) : ∀ k, k < 8 → (s.add r).cells.getD k 0 = pW (s.cells.getD k 0) (r.cells.getD k 0)
  | 0, _ => rfl
  | 1, _ => rfl
  | 2, _ => rfl
  | 3, _ => rfl
  | 4, _ => rfl
  | 5, _ => rfl
  | 6, _ => rfl
  | 7, _ => rfl
  | k + 8, h => absurd h (by omega)
theorem mixed_get (s r : St) : ∀ k, k < 8 → (((s.add r).cells.take k ++ s.cells.drop k).map wv).toArray[k]? = some (.int .u32 ((s.cells.getD k 0).toNat : Int))
  | 0, _ => rfl
  | 1, _ => rfl
  | 2, _ => rfl
  | 3, _ => rfl
  | 4, _ => rfl
  | 5, _ => rfl
  | 6, _ => rfl
  | 7, _ => rfl
  | k + 8, h => absurd h (by omega)
theorem mixed_set (s r : St) {z : UInt32} : ∀ k, k < 8 → z = (s.add r).cells.getD k 0 → (((s.add r).cells.take k ++ s.cells.drop k).map wv).toArray.setIfInBounds k (.int .u32 (z.toNat : Int)) = (((s.add r).cells.take (k + 1) ++ s.cells.drop (k + 1)).map wv).toArray
  | 0, _, h => by subst h; rfl
  | 1, _, h => by subst h; rfl
  | 2, _, h => by subst h; rfl
  | 3, _, h => by subst h; rfl
  | 4, _, h => by subst h; rfl
  | 5, _, h => by subst h; rfl
  | 6, _, h => by subst h; rfl
  | 7, _, h => by subst h; rfl
  | k + 8, h, _ => absurd h (by omega)
theorem keep_of {w w' : World} {g : Nat} {o : Obj} (h : w.heap[g]? = some o) (hg : w.grownBy w' none) : w'.heap[g]? = some o :=
  (hg.block _ (Array.getElem?_eq_some_iff.1 h).1 (by simp)).trans h

end Go.Proofs.Ytjdfnohlgeoniaa

namespace Go.Proofs.Ytjdfnohlgeoniaa
open Go.RowKit

theorem len_val8 (n i : Nat) : (8 * (n : Int)) / 2 ^ (8 * i) % 256 = ((UInt8.ofNat (8 * n / 2 ^ (8 * i))).toNat : Int) := by
  rw [Int.mul_comm]; exact len_val n i
theorem out_next (S : St) : ∀ k, k < 8 → (outB S).take (4 * (k + 1)) = (outB S).take (4 * k) ++ bytesW (S.cells.getD k 0)
  | 0, _ => rfl
  | 1, _ => rfl
  | 2, _ => rfl
  | 3, _ => rfl
  | 4, _ => rfl
  | 5, _ => rfl
  | 6, _ => rfl
  | 7, _ => rfl
  | k + 8, h => absurd h (by omega)
theorem byte_at (x : UInt32) : (x.toNat : Int) / 16777216 % 256 = ((UInt8.ofNat (x.toNat / 2 ^ 24)).toNat : Int) ∧ (x.toNat : Int) / 65536 % 256 = ((UInt8.ofNat (x.toNat / 2 ^ 16)).toNat : Int) ∧ (x.toNat : Int) / 256 % 256 = ((UInt8.ofNat (x.toNat / 2 ^ 8)).toNat : Int) ∧ (x.toNat : Int) % 256 = ((UInt8.ofNat (x.toNat / 2 ^ 0)).toNat : Int) := by
  refine ⟨?_, ?_, ?_, ?_⟩ <;> rw [UInt8.toNat_ofNat'] <;> omega

theorem ref_grown {w w1 w2 : World} {o o' : Obj} {C : Array Value} (h : (w.alloc o).grownBy w1 none) (hw : Hid ((w1.alloc o').setRow w1.heap.size C = w2)) : Hid (w.grownBy w2 none) := by
  show w.grownBy w2 none
  rw [← hw.out]
  have h1 := grown_same (grown_alloc (grown_refl w none) o) h
  exact grown_setRow (grown_alloc h1 _) (.inr h1.size) _

end Go.Proofs.Ytjdfnohlgeoniaa

namespace Go.Proofs.Ytjdfnohlgeoniaa
open Go.RowKit

/-- A part: where it lies, what it reads as, its room. -/
abbrev Part := Option Addr × List UInt8 × Nat
def pv (p : Part) : Value := .slice p.1 p.2.1.length p.2.2
def catP (ps : List Part) : List UInt8 := (ps.map fun p => p.2.1).flatten
/-- Parts as they can be read. -/
def RdP (w : World) (A : Option Addr) (ps : List Part) : Prop := RdAt w A (ps.map pv) ∧ ∀ p ∈ ps, RdB w p.1 p.2.1
theorem RdP.kept {w w' : World} {A : Option Addr} {ps : List Part} (h : RdP w A ps) (hg : w.grownBy w' none) : RdP w' A ps :=
  ⟨h.1.kept hg, fun p hp => (h.2 p hp).kept hg⟩
theorem RdP.get {w : World} {A : Option Addr} {ps : List Part} (h : RdP w A ps) {k : Nat} (hk : k < ps.length) :
    ∃ ad, A = some ad ∧ w.cell? (ad.add k) = some (.slice ps[k].1 ps[k].2.1.length ps[k].2.2) ∧ RdB w ps[k].1 ps[k].2.1 := by
  obtain ⟨ad, e, hc⟩ := RdAt.get h.1 (k := k) (by simpa using hk)
  exact ⟨ad, e, by simpa [pv] using hc, h.2 _ (List.getElem_mem hk)⟩
theorem catP_take {ps : List Part} {k : Nat} (hk : k < ps.length) : catP (ps.take (k + 1)) = catP (ps.take k) ++ ps[k].2.1 := by
  unfold catP
  rw [List.take_succ_eq_append_getElem hk, List.map_append, List.flatten_append, List.map_singleton, List.flatten_singleton]
theorem catP_le {ps : List Part} (k : Nat) : (catP (ps.take k)).length ≤ (catP ps).length := by
  have : catP ps = catP (ps.take k) ++ catP (ps.drop k) := by
    unfold catP
    rw [← List.flatten_append, ← List.map_append, List.take_append_drop]
  rw [this, List.length_append]
  omega

theorem ownB_of {w : World} {g n cap : Nat} {cs : Array Value} {l : List UInt8} (hg : w.heap[g]? = some (.cells cs 5 (0, 0))) (hl : l.length = n) (h : cs.toList.take n = l.map bv) (hs : cs.size = cap) (hn : n ≤ cap) (hm : cap ≤ maxLen) :
    OwnB w (.slice (some ⟨g, 0, none⟩) n cap) l := by
  have hlt : g < w.heap.size := (Array.getElem?_eq_some_iff.1 hg).1
  refine ⟨g, by omega, by simp, .inr ⟨g, cap, cs, by rw [List.length_map, hl], Nat.le_refl _, hg, by rw [List.length_map]; omega, hm, by omega, ?_⟩⟩
  rw [Nat.mul_one, List.length_map, hl]
  exact h
theorem made_bytes (n : Nat) : madeCells (Value.int .u8 0).cells (n * 1) = (List.replicate n (Value.int .u8 0)).toArray := by
  apply Array.ext'
  apply List.ext_getElem
  · simp [madeCells]
  · intro i h1 h2
    simp [madeCells, Value.cells, Nat.mod_one]
end Go.Proofs.Ytjdfnohlgeoniaa

namespace Go.Proofs.Ytjdfnohlgeoniaa
open Go.RowKit

section
variable {P : Program} {o : Oper} {a : Act} {w : World} {K : Act → World → Prop} {Q : Exit → Act → World → Prop}
theorem wp_move {x : Operand} (ho : o.op = .move x) (h : K (a.put o.dst (a.eval x)) w) : Oper.wp P o a w K Q := by
  unfold Oper.wp execOp; simp only [ho]; exact h
theorem wp_assign {x : Operand} (ho : o.op = .assign x) (h : K (a.put o.dst (a.eval x)) w) : Oper.wp P o a w K Q := by
  unfold Oper.wp execOp; simp only [ho]; exact h
theorem wp_lit {t : TypeId} {n : Nat} {parts : Array (Nat × Operand)} {v : Value} {w' : World} (ho : o.op = .buildSlice t n parts)
    (hrun : (Instr.buildSlice t n (parts.map fun (i, x) => (i, a.eval x))).run P w = .ok v w') (h : K (a.put o.dst v) w') : Oper.wp P o a w K Q := by
  unfold Oper.wp execOp; simp only [ho, Sem.run_bind, hrun, Result.andThen_ok, Sem.run_pure]; exact h
theorem wp_lit1 {t : TypeId} {x : Operand} {u v : Value} {w' : World} (ho : o.op = .buildSlice t 1 #[(0, x)]) (hu : a.eval x = u)
    (hrun : (Instr.buildSlice t 1 #[(0, u)]).run P w = .ok v w') (h : K (a.put o.dst v) w') : Oper.wp P o a w K Q :=
  wp_lit ho (by simpa [hu] using hrun) h
theorem enter_run {f : FuncId} {fn : Func} (hf : P.funcs[f]? = some fn) (hn : (fn.name == "runtime.NumGoroutine") = false) (hb : fn.body.isNone = false) (args : Array Value) (w : World) :
    (callFunc f args).run P w = .ok (.enter f args) w := by
  have hn' : ¬ fn.name = "runtime.NumGoroutine" := by simpa using hn
  have hb' : ¬ fn.body = none := by intro e; rw [e] at hb; cases hb
  simp [callFunc, run_program, hf, hn', hb']
theorem wp_call {f : FuncId} {fn : Func} {xs : Array Operand} {ts : Array TypeId} {args : Array Value} (ho : o.op = .call { callee := .value (.func f), args := xs, argTypes := ts })
    (hf : P.funcs[f]? = some fn) (hn : (fn.name == "runtime.NumGoroutine") = false) (hb : fn.body.isNone = false) (hx : xs.map a.eval = args)
    (h : Calls P f args w fun e w' => ∃ v, e = .returned v ∧ K (a.put o.dst v) w') : Oper.wp P o a w K Q := by
  obtain ⟨dst, op, ty, pos, after, guard⟩ := o
  simp only at ho
  subst ho
  unfold Oper.wp
  rw [execOp_call_go]
  have e : (#[] ++ xs.map a.eval ++ #[] : Array Value) = args := by simp [hx]
  rw [e, enter_run hf hn hb, Oper.upon_enter]
  exact h.mono fun e' w' ⟨v, he, hk⟩ => by subst he; exact hk
end

/-! Facts that last. -/
theorem lasts_val (x : Value) : Lasts fun v _ => v = x := fun _ _ _ _ h _ _ => h
theorem lasts_own (l : List UInt8) : Lasts fun v w => OwnB w v l := fun _ _ _ _ h hg hne => h.keep hg hne
theorem lasts_rd (n : Nat) (xs : List Value) : Lasts fun v w => ∃ A c, v = .slice A n c ∧ RdAt w A xs := by
  rintro v w w' row ⟨A, c, rfl, h⟩ hg hne
  refine ⟨A, c, rfl, h.keep hg fun ad e er => ?_⟩
  subst e
  rcases hne with h1 | h1
  · cases h1
  · exact h1 er
section
variable {ops : Array Oper} {die : Nat → Nat} {own : Nat → Bool} {F : Nat → Value → World → Prop} {a0 : Act} {W : World}
variable {P : Program}
/-- The same, each step's end told by what it leaves. -/
theorem wp_region_go2 {N : Nat} {S : Nat → Bool} {id : Nat} {Q : Exit → Act → World → Prop} (hm : P.follows .mixedOrders = true) (hok : regionOk ops N S = true) (hN : N ≤ a0.tmps.size) (hF : ∀ k, Lasts (F k))
    (hstep : ∀ (i : Nat) (o : Oper) (L : Array Bool) (a : Act) (w : World) (K : Act → World → Prop), i < ops.size → ops[i]? = some o → W.grownBy w none → L.getD i false = false → (∀ k, ops.size ≤ k → L.getD k false = false) →
      (∀ j, (o.after.toList.any fun e => Region.binds .any e && e.on == j) = true → L.getD j false = true) →
      (∀ t, S t = false → a.eval (.tmp t) = a0.eval (.tmp t)) →
      (∀ k, k < ops.size → liveAt die L k → F k (a.eval (.tmp (slotOf ops k))) w) →
      (∀ (v : Value) (w' : World), w.grownBy w' none → F i v w' → (∀ g, v.ownBlock = some g → g < w'.heap.size) → Fresh own W i w none v → K (a.put o.dst v) w') →
      (∀ (k : Nat) (v : Value) (w' : World), k < ops.size → liveAt die L k → own k = true → die k = i → w.grownBy w' (a.eval (.tmp (slotOf ops k))).ownBlock →
        F i v w' → (∀ g, v.ownBlock = some g → g < w'.heap.size) → Fresh own W i w (a.eval (.tmp (slotOf ops k))).ownBlock v → K (a.put o.dst v) w') →
      Region.wanted o (yielded ops a.tmps) = true ∧ Oper.wp P o a w K Q)
    (hend : ∀ (a : Act) (w : World), W.grownBy w none → (∀ k, k < ops.size → ops.size ≤ die k → F k (a.eval (.tmp (slotOf ops k))) w ∧ (own k = true → ∀ g, (a.eval (.tmp (slotOf ops k))).ownBlock = some g → W.heap.size ≤ g)) →
      a = { tmps := (fill S (fun t => a.tmps.getD t undef) 0 a0.tmps.toList).toArray, defers := a0.defers } → Q .normal a w) :
    (Code.region id ops true).wp P Q a0 W := by
  refine wp_region_rep (die := die) (own := own) (F := F) hm (regionOk_back hok) rep_start ?_ ?_
  · intro i o L a w K hi ho hrep hLi hpre hK
    have hout : ∀ k : Nat, ops.size ≤ k → L.getD k false = false := by
      intro k hk
      have hk' : ¬ k < L.size := by rw [hrep.size]; omega
      simp [Array.getD, hk']
    refine hstep i o L a w K hi ho hrep.old hLi hout ?_ ?_ ?_ ?_ ?_
    · intro j hj
      obtain ⟨n, hn, hb, rfl⟩ : ∃ (n : Nat) (h : n < o.after.size), Region.binds Region.Mode.any o.after[n] = true ∧ o.after[n].on = j := by simpa using hj
      exact hpre _ (Array.getElem_mem hn) hb
    · intro t ht
      exact hrep.frame t fun k hk e => by
        have := (regionOk_slot hok hk).2.1
        rw [e, ht] at this
        cases this
    · intro k hk hl
      exact (hrep.item k hk hl).1
    · intro v w' hg hv hlt hnew
      exact hK _ _ (rep_go hok hN hF hrep hi ho hg (.inl rfl) hv hlt hnew)
    · intro k v w' hk hl hok' hd hg hv hlt hnew
      exact hK _ _ (rep_go hok hN hF hrep hi ho hg (.inr ⟨k, hk, hl, hok', hd, rfl⟩) hv hlt hnew)
  · intro L a w hl hrep
    refine hend a w hrep.old (fun k hk hd => ?_) (rep_frame hok hrep)
    have hlive : liveAt die L k := ⟨hl k hk, by
      have : ¬ die k < L.size := by rw [hrep.size]; omega
      simp [Array.getD, this]⟩
    exact ⟨(hrep.item k hk hlive).1, (hrep.item k hk hlive).2.2⟩
end

theorem wanted_of {ops : Array Oper} {o : Oper} {a : Act} {j s : Nat} (hg : o.guard = some (j, true)) (hd : (ops[j]?).bind (·.dst) = some s) (hv : a.eval (.tmp s) = .bool true) : Region.wanted o (yielded ops a.tmps) = true := by
  have h : a.tmps.getD s undef = .bool true := hv
  have h' : a.tmps[s]? = some (.bool true) := by
    by_cases hs : s < a.tmps.size
    · simp [Array.getD, hs] at h
      rw [Array.getElem?_eq_getElem hs, h]
    · simp [Array.getD, hs] at h
      cases h
  simp [Region.wanted, hg, yielded, hd, h']
theorem Fresh.old {own : Nat → Bool} {W : World} {i : Nat} {w : World} {row : Option Nat} {v : Value} (hi : own i = false) (h : ∀ g, v.ownBlock = some g → g < W.heap.size) : Fresh own W i w row v := by
  cases e : v.ownBlock with
  | none => exact .inl e
  | some g => exact .inr (.inr (.inr ⟨hi, g, e, h g e⟩))

section
variable {P : Program} {o : Oper} {a : Act} {w : World} {K : Act → World → Prop} {Q : Exit → Act → World → Prop}
theorem wp_pick {c x y : Operand} (ho : o.op = .pick c x y) (hc : a.eval c = .bool true) (h : K (a.put o.dst (a.eval x)) w) : Oper.wp P o a w K Q := by
  unfold Oper.wp execOp
  simp [ho, hc, asBool]
  exact h
end
section
variable {P : Program} {o : Oper} {a : Act} {w : World} {K : Act → World → Prop} {Q : Exit → Act → World → Prop}
theorem wp_slice_hi {t : TypeId} {x y : Operand} {xv yv v : Value} (ho : o.op = .slice t x none (some y) none) (hx : a.eval x = xv) (hy : a.eval y = yv)
    (hrun : (Instr.sliceAt t xv none (some yv) none).run P w = .ok v w) (h : K (a.put o.dst v) w) : Oper.wp P o a w K Q := by
  subst hx
  subst hy
  unfold Oper.wp execOp; simp only [ho, Option.map_none, Option.map_some, Sem.run_bind, hrun, Result.andThen_ok, Sem.run_pure]; exact h
theorem wp_slice_all {t : TypeId} {x : Operand} {xv v : Value} (ho : o.op = .slice t x none none none) (hx : a.eval x = xv)
    (hrun : (Instr.sliceAt t xv none none none).run P w = .ok v w) (h : K (a.put o.dst v) w) : Oper.wp P o a w K Q := by
  subst hx
  unfold Oper.wp execOp; simp only [ho, Option.map_none, Sem.run_bind, hrun, Result.andThen_ok, Sem.run_pure]; exact h
theorem wp_lit2 {t : TypeId} {x y : Operand} {u1 u2 v : Value} {w' : World} (ho : o.op = .buildSlice t 2 #[(0, x), (1, y)]) (hx : a.eval x = u1) (hy : a.eval y = u2)
    (hrun : (Instr.buildSlice t 2 #[(0, u1), (1, u2)]).run P w = .ok v w') (h : K (a.put o.dst v) w') : Oper.wp P o a w K Q :=
  wp_lit ho (by simpa [hx, hy] using hrun) h
theorem wp_lit0 {t : TypeId} {v : Value} {w' : World} (ho : o.op = .buildSlice t 0 #[])
    (hrun : (Instr.buildSlice t 0 #[]).run P w = .ok v w') (h : K (a.put o.dst v) w') : Oper.wp P o a w K Q :=
  wp_lit ho (by simpa using hrun) h
end

section
variable {o : Oper} {a : Act} {w : World} {K : Act → World → Prop} {Q : Exit → Act → World → Prop}
theorem wp_len {x : Operand} {t : TypeId} (ho : o.op = .call { callee := .builtin .len, args := #[x], argTypes := #[t] }) (ht : Try.prog.underlying t = some (.slice (Try.prog.elem t))) {A : Option Addr} {n c : Nat} (hx : a.eval x = .slice A n c)
    (h : K (a.put o.dst (.int .i64 n)) w) : Oper.wp Try.prog o a w K Q := by
  unfold Oper.wp execOp
  simp [ho, resolve, invoke, builtin, hx, run_len_slice (h := ht)]
  exact h
end
theorem lt_bool {v : Value} {b : Bool} (h : v = .bool b) {n : Nat} : ∀ g, v.ownBlock = some g → g < n := by
  subst h
  intro g e
  cases e
theorem Fresh.bool {own : Nat → Bool} {W : World} {i : Nat} {w : World} {row : Option Nat} {v : Value} {b : Bool} (h : v = .bool b) : Fresh own W i w row v := .inl (by rw [h]; rfl)
theorem lt_new (w : World) (o : Obj) {n c : Nat} : ∀ g, (Value.slice (some ⟨w.heap.size, 0, none⟩) n c).ownBlock = some g → g < (w.alloc o).heap.size := by
  intro g e
  cases e
  simp
theorem rd_of_own {w : World} {v : Value} {B l : List UInt8} (e : B = l) (h : OwnB w v l) : ∃ A c, v = .slice A B.length c ∧ RdAt w A (B.map bv) := by
  subst e
  obtain ⟨A, c, e, _, _, hr⟩ := h.slice
  exact ⟨A, c, e, hr⟩

theorem lt_val {v c : Value} (h : v = c) (hc : c.ownBlock = none) {n : Nat} : ∀ g, v.ownBlock = some g → g < n := by
  subst h
  intro g e
  rw [hc] at e
  cases e
theorem Fresh.val {own : Nat → Bool} {W : World} {i : Nat} {w : World} {row : Option Nat} {v c : Value} (h : v = c) (hc : c.ownBlock = none) : Fresh own W i w row v := .inl (by rw [h]; exact hc)
section
variable {P : Program} {o : Oper} {a : Act} {w : World} {K : Act → World → Prop} {Q : Exit → Act → World → Prop}
theorem wp_slice_lo {t : TypeId} {x y : Operand} {xv yv v : Value} (ho : o.op = .slice t x (some y) none none) (hx : a.eval x = xv) (hy : a.eval y = yv)
    (hrun : (Instr.sliceAt t xv (some yv) none none).run P w = .ok v w) (h : K (a.put o.dst v) w) : Oper.wp P o a w K Q := by
  subst hx
  subst hy
  unfold Oper.wp execOp; simp only [ho, Option.map_none, Option.map_some, Sem.run_bind, hrun, Result.andThen_ok, Sem.run_pure]; exact h
theorem wp_lit3 {t : TypeId} {x y z : Operand} {u1 u2 u3 v : Value} {w' : World} (ho : o.op = .buildSlice t 3 #[(0, x), (1, y), (2, z)]) (hx : a.eval x = u1) (hy : a.eval y = u2) (hz : a.eval z = u3)
    (hrun : (Instr.buildSlice t 3 #[(0, u1), (1, u2), (2, u3)]).run P w = .ok v w') (h : K (a.put o.dst v) w') : Oper.wp P o a w K Q :=
  wp_lit ho (by simpa [hx, hy, hz] using hrun) h
theorem wp_bin {op : BinOp} {t t2 : TypeId} {x y : Operand} {xv yv v : Value} (ho : o.op = .binOp op t x y t2) (hx : a.eval x = xv) (hy : a.eval y = yv)
    (hg : (eqGuard op t x y xv yv).run P w = .ok () w) (hrun : (binOp op t xv yv).run P w = .ok v w) (h : K (a.put o.dst v) w) : Oper.wp P o a w K Q := by
  subst hx
  subst hy
  unfold Oper.wp execOp
  simp [ho, hrun, hg]
  exact h
end

/-! ## Ints -/
theorem add_i64 (x y : Int) (w : World) (h : -9223372036854775808 ≤ x + y ∧ x + y ≤ 9223372036854775807) : (binOp .add 3 (.int .i64 x) (.int .i64 y)).run Try.prog w = .ok (.int .i64 (x + y)) w := by
  have e : (binOp .add 3 (.int .i64 x) (.int .i64 y)).run Try.prog w = .ok (.int .i64 (IntKind.i64.wrap (x + y))) w := by kernel_rfl
  rw [e, IntWalk.i64_in _ h]
theorem eql_i64 (x y : Int) (w : World) (h : x = y) : (binOp .eql 3 (.int .i64 x) (.int .i64 y)).run Try.prog w = .ok (.bool true) w := by
  subst h
  have e : (binOp .eql 3 (.int .i64 x) (.int .i64 x)).run Try.prog w = .ok (.bool (x == x)) w := by kernel_rfl
  rw [e, beq_self_eq_true]
theorem quo64_i64 (x : Int) (w : World) (h : 0 ≤ x ∧ x ≤ 9223372036854775807) : (binOp .quo 3 (.int .i64 x) (.int .i64 64)).run Try.prog w = .ok (.int .i64 (x / 64)) w := by
  have e : (binOp .quo 3 (.int .i64 x) (.int .i64 64)).run Try.prog w = .ok (.int .i64 (IntKind.i64.wrap (x.tdiv 64))) w := by kernel_rfl
  rw [e, IntWalk.i64_quo x 64 ⟨h.1, h.2, by decide⟩]
theorem guard_int (x y : Operand) (m n : Int) (w : World) : (eqGuard .eql 3 x y (.int .i64 m) (.int .i64 n)).run Try.prog w = .ok () w := by kernel_rfl
theorem guard_add (x y : Operand) (xv yv : Value) (w : World) : (eqGuard .add 3 x y xv yv).run Try.prog w = .ok () w := by kernel_rfl
theorem guard_quo (x y : Operand) (xv yv : Value) (w : World) : (eqGuard .quo 3 x y xv yv).run Try.prog w = .ok () w := by kernel_rfl
/-! ## Slices and literals -/
theorem rd_lit (w : World) (vs : List Value) (n : Nat) (t : TypeId) (hn : vs.length = n) : ∃ A c, (Value.slice (some ⟨w.heap.size, 0, none⟩) n n) = .slice A vs.length c ∧ RdAt (w.alloc (.cells vs.toArray t)) A vs := by
  subst hn
  exact ⟨_, _, rfl, rd_row (heap_alloc_new _ _)⟩

/-! ## Calls -/
section
variable {o : Oper} {a : Act} {w : World} {K : Act → World → Prop} {Q : Exit → Act → World → Prop}
end

theorem own_len {A : Option Addr} {n n' c c' : Nat} : (Value.slice A n c).ownBlock = (Value.slice A n' c').ownBlock := by cases A <;> rfl
theorem own_cut {A : Option Addr} {c k n' c' c'' g : Nat} {l : List UInt8} (h : (pv ((if c = k then A else A.map (·.add k), l, c') : Part)).ownBlock = some g) : (Value.slice A n' c'').ownBlock = some g := by
  cases A with
  | none => split at h <;> exact h
  | some ad =>
    split at h
    · exact h
    · have e : (pv ((Option.map (fun x => x.add k) (some ad), l, c') : Part)).ownBlock = some (ad.add k).block := rfl
      rw [e, add_block] at h
      exact h
end Go.Proofs.Ytjdfnohlgeoniaa

namespace Go.Proofs.Ytjdfnohlgeoniaa
open Go.ChangeShapes Go.WideShapes Go.ChangeAt Go.WideMaps Go.WideElems Go.RowKit

section
variable {H : Type} {enc : TypeId × Value → H} {P : Program} {W : World} {base : Nat} {v : Value} {d : DataW H} {p : List MemPlace}

theorem arg_byte {t : TypeId} (ht : P.underlying t = some (.int .u8)) (hv : Value.okWide P W .any base t v) (hd : DataW.Trod enc P W 0 (fun _ => true) true t v d p) :
    ∃ x : UInt8, v = .int .u8 (x.toNat : Int) := by
  obtain ⟨n, rfl, _, _, hw⟩ := open_int ht hv hd
  obtain ⟨h0, h1⟩ := bounds_u8 hw
  refine ⟨UInt8.ofNat n.toNat, ?_⟩
  rw [UInt8.toNat_ofNat', show (n.toNat % 2 ^ 8 : Nat) = n.toNat by omega, Int.toNat_of_nonneg h0]

theorem arg_bool {t : TypeId} (ht : P.underlying t = some .bool) (hv : Value.okWide P W .any base t v) (hd : DataW.Trod enc P W 0 (fun _ => true) true t v d p) :
    ∃ b : Bool, v = .bool b := by
  obtain ⟨b, rfl, _⟩ := open_bool ht hv hd
  exact ⟨b, rfl⟩

theorem trod_bytes {t e : TypeId} {fuel : Nat} {v : Value} {x : DataW H × List MemPlace} (ht : P.underlying t = some (.slice e)) (he : P.underlying e = some (.int .u8)) (hc : P.cellsOf e = 1)
    (hf : DataW.trod enc P W 0 (fun _ => true) true fuel t [v] = some x) :
    ∃ q : Part, v = pv q ∧ q.2.1.length ≤ q.2.2 ∧ q.2.2 ≤ maxLen ∧ RdB W q.1 q.2.1 := by
  rcases open_ints ht he hc hf with ⟨hcs, _⟩ | ⟨a, len, cap, zs, hcs, _, hl, hm, hz, _, hcell, hwz⟩
  · simp at hcs
    subst hcs
    exact ⟨(none, [], 0), rfl, Nat.le_refl _, Nat.zero_le _, RdAt.nil⟩
  · simp at hcs
    subst hcs
    simp only [if_true] at hz
    have hcl : ∀ i (hi : i < zs.length), W.cell? (a.add i) = some (.int .u8 zs[i]) := fun i hi => by
      have := hcell i hi
      rwa [show zs.getD i 0 = zs[i] from by simp [List.getD, hi]] at this
    have hall : ∀ v ∈ (zs.take len).map (Value.int .u8), ∃ n : Int, v = .int .u8 n ∧ 0 ≤ n ∧ n ≤ 255 := by
      intro v hv
      simp only [List.mem_map] at hv
      obtain ⟨n, hn, rfl⟩ := hv
      exact ⟨n, rfl, bounds_u8 (hwz n (List.mem_of_mem_take hn))⟩
    obtain ⟨l, hl'⟩ := bytes_of _ hall
    have hll : l.length = len := by
      have := congrArg List.length hl'
      simp only [List.length_map, List.length_take] at this
      omega
    refine ⟨(some a, l, cap), by simp only [pv, hll], by simp only [hll]; exact hl, hm, .inr ⟨a, rfl, fun j u hu => ?_⟩⟩
    simp only at hu
    rw [← hl'] at hu
    simp only [List.getElem?_map, Option.map_eq_some_iff] at hu
    obtain ⟨n, hn, rfl⟩ := hu
    rw [List.getElem?_take] at hn
    split at hn
    · obtain ⟨hj, rfl⟩ := List.getElem?_eq_some_iff.1 hn
      exact hcl j hj
    · cases hn

theorem list_of {α : Type} {Q : Nat → α → Prop} : ∀ n, (∀ i, i < n → ∃ x, Q i x) → ∃ xs : List α, xs.length = n ∧ ∀ i (h : i < xs.length), Q i xs[i]
  | 0, _ => ⟨[], rfl, fun i h => absurd h (by simp)⟩
  | n + 1, h => by
    obtain ⟨xs, hl, hx⟩ := list_of n fun i hi => h i (by omega)
    obtain ⟨y, hy⟩ := h n (by omega)
    refine ⟨xs ++ [y], by simp [hl], fun i hi => ?_⟩
    by_cases hin : i < xs.length
    · rw [List.getElem_append_left hin]; exact hx i hin
    · have : i = n := by rw [List.length_append, List.length_singleton] at hi; omega
      subst this
      rw [List.getElem_append_right (by omega)]
      simpa using hy

theorem arg_lists {t e b : TypeId} (ht : P.underlying t = some (.slice e)) (he : P.underlying e = some (.slice b)) (hb : P.underlying b = some (.int .u8)) (hce : P.cellsOf e = 1) (hcb : P.cellsOf b = 1)
    (hv : Value.okWide P W .any base t v) (hd : DataW.Trod enc P W 0 (fun _ => true) true t v d p) :
    ∃ (A : Option Addr) (ps : List Part) (c : Nat), v = .slice A ps.length c ∧ ps.length ≤ c ∧ c ≤ maxLen ∧ RdP W A ps ∧ ∀ q ∈ ps, q.2.1.length ≤ q.2.2 ∧ q.2.2 ≤ maxLen := by
  obtain ⟨a0, len, cap, rfl⟩ := okWide_slice ht hv
  obtain ⟨fuel, hf⟩ := hd
  rcases DataW.trod_slice ht hf with ⟨hcs, _⟩ | ⟨a, len', cap', elems, rest, n, _, hcs, hx, _, hl, hm, hlen, hel, _⟩
  · simp [Value.cells] at hcs
    obtain ⟨rfl, rfl, rfl⟩ := hcs
    exact ⟨none, [], 0, rfl, Nat.le_refl _, Nat.zero_le _, ⟨RdAt.nil, by simp⟩, by simp⟩
  · simp [Value.cells] at hcs
    obtain ⟨rfl, rfl, rfl⟩ := hcs
    have hq : ∀ i, i < len → ∃ q : Part, W.cell? (a.add i) = some (pv q) ∧ q.2.1.length ≤ q.2.2 ∧ q.2.2 ≤ maxLen ∧ RdB W q.1 q.2.1 := by
      intro i hi
      have hE := hel i hi
      rw [hce, Nat.mul_one] at hE
      rw [List.getElem?_eq_getElem (by omega)] at hE
      simp only [Option.bind_eq_some_iff] at hE
      obtain ⟨c1, hc1, hy1⟩ := hE
      have e0 : (a.add i).add 0 = a.add i := by simp [Addr.add]
      have hc : ∃ c, c1 = [c] ∧ W.cell? (a.add i) = some c := by
        unfold World.cells? at hc1
        split at hc1
        · simp only [List.range_succ, List.range_zero, List.nil_append, List.mapM_cons, List.mapM_nil, e0] at hc1
          cases hcc : W.cell? (a.add i) with
          | none => simp [hcc] at hc1
          | some c => simp [hcc] at hc1; exact ⟨c, hc1.symm, rfl⟩
        · cases hc1
      obtain ⟨c, rfl, hcell⟩ := hc
      obtain ⟨q, rfl, h1, h2, h3⟩ := trod_bytes he hb hcb hy1
      exact ⟨q, hcell, h1, h2, h3⟩
    obtain ⟨ps, hpl, hps⟩ := list_of len hq
    refine ⟨some a, ps, cap, by rw [hpl], by omega, hm, ⟨.inr ⟨a, rfl, fun j u hu => ?_⟩, fun q hq' => ?_⟩, fun q hq' => ?_⟩
    · simp only [List.getElem?_map, Option.map_eq_some_iff] at hu
      obtain ⟨q, hq', rfl⟩ := hu
      obtain ⟨hj, rfl⟩ := List.getElem?_eq_some_iff.1 hq'
      exact (hps j hj).1
    · obtain ⟨j, hj, rfl⟩ := List.getElem_of_mem hq'
      exact (hps j hj).2.2.2
    · obtain ⟨j, hj, rfl⟩ := List.getElem_of_mem hq'
      exact ⟨(hps j hj).2.1, (hps j hj).2.2.1⟩
end
end Go.Proofs.Ytjdfnohlgeoniaa

namespace Go.Proofs.Ytjdfnohlgeoniaa
open Go.ChangeShapes Go.WideShapes Go.ChangeAt Go.WideMaps Go.WideElems Go.RowKit

section
variable {H : Type} {enc : TypeId × Value → H} {P : Program} {W : World} {base : Nat} {v : Value} {d : DataW H} {p : List MemPlace}

theorem hash_cells {e b : TypeId} {fuel : Nat} {cs : List Value} {x : DataW H × List MemPlace} (he : P.underlying e = some (.array 32 b)) (hb : P.underlying b = some (.int .u8)) (hcb : P.cellsOf b = 1) (hce : P.cellsOf e = 32)
    (hf : DataW.trod enc P W 0 (fun _ => true) true fuel e cs = some x) : ∃ l : List UInt8, cs = l.map bv ∧ l.length = 32 := by
  obtain ⟨xs, m, _, _, hlen, hxl, hx⟩ := DataW.trod_array he hf
  have hcs : cs.length = 32 := by rw [hlen, hce]
  have hall : ∀ v ∈ cs, ∃ n : Int, v = .int .u8 n ∧ 0 ≤ n ∧ n ≤ 255 := by
    intro v hv
    obtain ⟨i, hi, rfl⟩ := List.getElem_of_mem hv
    have h1 := hx i (by omega)
    rw [hcb, Nat.mul_one, List.getElem?_eq_getElem (by omega)] at h1
    obtain ⟨n, e1, _, hw⟩ := DataW.trod_int hb h1
    have e2 : (cs.drop i).take 1 = [cs[i]] := by rw [List.drop_eq_getElem_cons hi]; rfl
    rw [e2] at e1
    injection e1 with e1
    exact ⟨n, e1, bounds_u8 hw⟩
  obtain ⟨l, hl⟩ := bytes_of _ hall
  refine ⟨l, hl, ?_⟩
  rw [hl, List.length_map] at hcs
  exact hcs

theorem flat_of {ls : List (List UInt8)} (h : ∀ x ∈ ls, x.length = 32) : ∀ (i j : Nat), j < 32 → ls.flatten[i * 32 + j]? = (ls[i]?).bind fun x => x[j]? := by
  induction ls with
  | nil => intro i j _; simp
  | cons a ls ih =>
    intro i j hj
    have ha := h a (List.mem_cons_self ..)
    cases i with
    | zero => rw [List.flatten_cons, List.getElem?_append_left (by omega)]; simp
    | succ i =>
      rw [List.flatten_cons, List.getElem?_append_right (by omega), ha, show (i + 1) * 32 + j - 32 = i * 32 + j by omega, ih (fun x hx => h x (List.mem_cons_of_mem _ hx)) i j hj]
      simp

theorem arg_hashes {t e b : TypeId} (ht : P.underlying t = some (.slice e)) (he : P.underlying e = some (.array 32 b)) (hb : P.underlying b = some (.int .u8)) (hce : P.cellsOf e = 32) (hcb : P.cellsOf b = 1)
    (hv : Value.okWide P W .any base t v) (hd : DataW.Trod enc P W 0 (fun _ => true) true t v d p) :
    ∃ (A : Option Addr) (l : List UInt8) (n c : Nat), v = .slice A n c ∧ n ≤ c ∧ l.length = n * 32 ∧ RdB W A l := by
  obtain ⟨a0, len, cap, rfl⟩ := okWide_slice ht hv
  obtain ⟨fuel, hf⟩ := hd
  rcases DataW.trod_slice ht hf with ⟨hcs, _⟩ | ⟨a, len', cap', elems, rest, n, _, hcs, hx, _, hl, hm, hlen, hel, _⟩
  · simp [Value.cells] at hcs
    obtain ⟨rfl, rfl, rfl⟩ := hcs
    exact ⟨none, [], 0, 0, rfl, Nat.le_refl _, rfl, RdAt.nil⟩
  · simp [Value.cells] at hcs
    obtain ⟨rfl, rfl, rfl⟩ := hcs
    have hq : ∀ i, i < len → ∃ q : List UInt8, q.length = 32 ∧ ∀ j u, (q.map bv)[j]? = some u → W.cell? ((a.add (i * 32)).add j) = some u := by
      intro i hi
      have hE := hel i hi
      rw [hce, List.getElem?_eq_getElem (by omega)] at hE
      simp only [Option.bind_eq_some_iff] at hE
      obtain ⟨c1, hc1, hy1⟩ := hE
      obtain ⟨q, rfl, hq⟩ := hash_cells he hb hcb hce hy1
      obtain ⟨_, hlen1, hcell⟩ := World.cells?_some hc1
      refine ⟨q, hq, fun j u hu => ?_⟩
      have hj : j < 32 := by
        have := (List.getElem?_eq_some_iff.1 hu).1
        rw [List.length_map, hq] at this; exact this
      rw [hcell j hj]; exact hu
    obtain ⟨ls, hll, hls⟩ := list_of len hq
    have h32 : ∀ x ∈ ls, x.length = 32 := by
      intro x hx
      obtain ⟨i, hi, rfl⟩ := List.getElem_of_mem hx
      exact (hls i hi).1
    have hfl : ls.flatten.length = len * 32 := by
      rw [← hll]
      clear hls hll
      induction ls with
      | nil => rfl
      | cons x ls ih =>
        rw [List.flatten_cons, List.length_append, ih (fun y hy => h32 y (List.mem_cons_of_mem _ hy)), h32 x (List.mem_cons_self ..), List.length_cons]; omega
    refine ⟨some a, ls.flatten, len, cap, rfl, by omega, hfl, .inr ⟨a, rfl, fun j u hu => ?_⟩⟩
    have hj : j < len * 32 := by
      have := (List.getElem?_eq_some_iff.1 hu).1
      rw [List.length_map, hfl] at this; exact this
    have e : j = j / 32 * 32 + j % 32 := by omega
    have hi : j / 32 < ls.length := by omega
    rw [e, List.getElem?_map, flat_of h32 _ _ (Nat.mod_lt _ (by decide)), List.getElem?_eq_getElem hi] at hu
    rw [e, ← add_add]
    exact (hls _ hi).2 _ u (by rw [List.getElem?_map]; exact hu)
end
end Go.Proofs.Ytjdfnohlgeoniaa
