/- Proofs: kinds of operations. -/
import Derived.Test.YtpeepiboocdnaaaDoorPvC
import Derived.Test.YtpeepiboocdnaaaDoorPvH
import Derived.Test.YtpeepiboocdnaaaDoorKN
namespace Go.Proofs.YtpeepiboocdnaaaDoor
open Go.RowKit

theorem quiet_load_kvL {o : Oper} {a : Act} {C : World → Prop} {K : Act → Prop} (x : Operand) (ho : o.op = .load 23 x)
    (ad : Addr) (hx : a.eval x = .pointer (some ad)) (p : Kv) (hc : ∀ w, C w → AtQ w ad p) (h : K (a.put o.dst (.agg #[.string ⟨p.1.toArray⟩, .string ⟨p.2.toArray⟩]))) : o.quiet Tryd.prog a C K := ⟨.agg #[.string ⟨p.1.toArray⟩, .string ⟨p.2.toArray⟩], fun w hw => by
  have hl := run_loadVar_cells (P := Tryd.prog) w ad 23 [sv p.1, sv p.2] _ (fun j u hu => by
    match j, hu with
    | 0, hu => cases hu; have e : ad.add 0 = ad := by unfold Addr.add; split <;> simp_all
               rw [e]; exact (hc w hw).1
    | 1, hu => cases hu; rw [add_one]; exact (hc w hw).2) Tryd.underlying23 rfl size_kv
  unfold Oper.quietAt execOp
  simp only [ho, hx, Instr.loadAt, Instr.sureAddr, Sem.run_bind, Sem.run_pure, Result.andThen_ok, hl]
  exact ⟨rfl, rfl⟩, h⟩
theorem field_pf (g i : Nat) (hi : i < 4) (w : World) : (Instr.fieldAt 27 (.pointer (some ⟨g, 0, none⟩)) i).run Tryd.prog w = .ok (.pointer (some ⟨g, i, none⟩)) w := by
  rcases (show i = 0 ∨ i = 1 ∨ i = 2 ∨ i = 3 by omega) with rfl | rfl | rfl | rfl <;> kernel_rfl
theorem wp_pickQ {P : Program} {o : Oper} {a : Act} {w : World} {K : Act → World → Prop} {Q : Exit → Act → World → Prop} {c x y : Operand} (ho : o.op = .pick c x y) (hc : a.eval c = .bool false) (h : K (a.put o.dst (a.eval y)) w) : Oper.wp P o a w K Q := by
  unfold Oper.wp execOp
  simp [ho, hc, asBool]
  exact h
theorem guard_neK (x y : Operand) (xv yv : Array Value) (w : World) : (eqGuard .neq 23 x y (.agg xv) (.agg yv)).run Tryd.prog w = .ok () w := by kernel_rfl
theorem neq_same (q : Kv) (w : World) : (binOp .neq 23 (.agg #[.string ⟨q.1.toArray⟩, .string ⟨q.2.toArray⟩]) (.agg #[.string ⟨q.1.toArray⟩, .string ⟨q.2.toArray⟩])).run Tryd.prog w = .ok (.bool false) w := by
  rw [neq_kv, beq_self_eq_true]; rfl
theorem AtQ.of_box {W : World} {g : Nat} {q : Kv} {t : TypeId} {fr : Nat × Nat} (h : W.heap[g]? = some (.cells #[.string ⟨q.1.toArray⟩, .string ⟨q.2.toArray⟩] t fr)) : AtQ W ⟨g, 0, none⟩ q :=
  ⟨by rw [cell_of_row W _ 0 _ _ _ h]; rfl, by rw [cell_of_row W _ 1 _ _ _ h]; rfl⟩
/-- A box of a proof whose parts are known. -/
theorem box_of {P : Pf} {A B : Option Addr} {c d n m : Nat} {x y : Int} (h0 : P.count = x) (h1 : P.first = y) (h2 : P.pairs.length = n) (h3 : P.paths.length = m) :
    (#[.int .i64 P.count, .int .i64 P.first, .slice A P.pairs.length c, .slice B P.paths.length d] : Array Value) = #[.int .i64 x, .int .i64 y, .slice A n c, .slice B m d] := by rw [h0, h1, h2, h3]
theorem someL_some {ps : List Kv} {i j : Nat} (h : i < j) (hj : j ≤ ps.length) : (someL ps i j).count = (ps.length : Nat) ∧ (someL ps i j).first = (i : Nat) ∧ (someL ps i j).pairs = (ps.drop i).take (j - i) ∧ (someL ps i j).paths = pathsB ps i (j - i) ∧ (someL ps i j).pairs.length = j - i ∧ (someL ps i j).paths.length = j - i := by
  unfold someL
  rw [if_pos h]
  refine ⟨rfl, rfl, rfl, rfl, ?_, pathsB_len _ _ _⟩
  show ((ps.drop i).take (j - i)).length = _
  rw [List.length_take, List.length_drop]; omega
theorem someL_none {ps : List Kv} {i j : Nat} (h : ¬ i < j) : someL ps i j = ⟨ps.length, 0, [], []⟩ := by unfold someL; rw [if_neg h]
theorem pathsB_at (ps : List Kv) (i n k : Nat) (hk : k < n) : (pathsB ps i n)[k]'(by rw [pathsB_len]; exact hk) = pathB ps (i + k) := by simp [pathsB]
/-- The path of a proof's k-th place. -/
theorem IsPf.path {w : World} {P : Pf} {A : Option Addr} {c : Nat} {B : Option Addr} {d : Nat} {rs : List Ph} (h : IsPf w P A c B d rs) {ps : List Kv} {i n k : Nat} (hp : P.paths = pathsB ps i n) (hk : k < n) : ∃ ad r, B = some ad ∧ w.cell? (ad.add k) = some (hv r) ∧ Ph.ok w r ∧ r.2.1 = pathB ps (i + k) := by
  have hl : rs.length = n := by rw [h.len, hp, pathsB_len]
  obtain ⟨ad, e, hc, ho⟩ := h.rp.get (k := k) (by omega)
  refine ⟨ad, _, e, hc, ho, ?_⟩
  have h1 := congrArg (fun l => l[k]?) h.ps
  simp only [List.getElem?_map] at h1
  rw [List.getElem?_eq_getElem (by omega), hp, List.getElem?_eq_getElem (by rw [pathsB_len]; exact hk), pathsB_at ps i n k hk] at h1
  simpa using h1
/-- The sum of sizes of n proofs of one pair each. -/
def sumS (ps : List Kv) (i n : Nat) : Nat := ((List.range n).map fun k => 1 + depthN (i + k) ps.length).sum
theorem sumS_next (ps : List Kv) (i n : Nat) : sumS ps i (n + 1) = sumS ps i n + (1 + depthN (i + n) ps.length) := by
  unfold sumS
  rw [List.range_succ, List.map_append, List.sum_append]
  simp
theorem sumS_le (ps : List Kv) (i n : Nat) : sumS ps i n ≤ n * (1 + ps.length) := by
  induction n with
  | zero => simp [sumS]
  | succ n ih =>
    rw [sumS_next]
    have := depthN_lt ps.length (i + n)
    have e : (n + 1) * (1 + ps.length) = n * (1 + ps.length) + (1 + ps.length) := by rw [Nat.add_mul]; omega
    omega
theorem add_to {x y z : Int} (h : IntKind.i64.wrap (x + y) = z) (w : World) : (binOp .add 3 (.int .i64 x) (.int .i64 y)).run Tryd.prog w = .ok (.int .i64 z) w := by
  have e : (binOp .add 3 (.int .i64 x) (.int .i64 y)).run Tryd.prog w = .ok (.int .i64 (IntKind.i64.wrap (x + y))) w := by kernel_rfl
  rw [e, h]
theorem sub_to {x y z : Int} (h : IntKind.i64.wrap (x - y) = z) (w : World) : (binOp .sub 3 (.int .i64 x) (.int .i64 y)).run Tryd.prog w = .ok (.int .i64 z) w := by
  have e : (binOp .sub 3 (.int .i64 x) (.int .i64 y)).run Tryd.prog w = .ok (.int .i64 (IntKind.i64.wrap (x - y))) w := by kernel_rfl
  rw [e, h]
end Go.Proofs.YtpeepiboocdnaaaDoor
