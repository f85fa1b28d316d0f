/- The laws of append, of a whole array's load and of two hashes' comparison as steps of regions that draw their order. -/
import Derived.Test.YthccbbdabfpjcaaPure
import Derived.Stop.BytesEq
namespace Go.Proofs.Ythccbbdabfpjcaa
open Go.RowKit

/-- 'append(v, x...)' on bytes as a step of a region that draws. -/
theorem step_appB {ops : Array Oper} {o : Oper} {a : Act} {w : World} {K : Act → World → Prop} {Q : Exit → Act → World → Prop} {E : Prop} (hgd : o.guard = none) (s x : Operand)
    (ho : o.op = .call { callee := .builtin .append, args := #[s, x], argTypes := #[24, 24] })
    {v : Value} {l : List UInt8} (hv : a.eval s = v) (hown : OwnB w v l) {A : Option Addr} {m c : Nat} {news : List UInt8} (hx : a.eval x = .slice A m c) (hm : m = news.length) (hr : RdB w A news)
    (hb : l.length + news.length ≤ 140737488355328)
    (h : ∀ v' w', OwnB w' v' (l ++ news) → Grew w w' v v' → K (a.put o.dst v') w') :
    if Region.wanted o (yielded ops a.tmps) = true then Oper.wp Try.prog o a w K Q else E := by
  have hw : Region.wanted o (yielded ops a.tmps) = true := by simp [Region.wanted, hgd]
  rw [if_pos hw]
  obtain ⟨i, hi, hz, hs, hby⟩ := info_parts info_u8
  obtain ⟨base, hbase, hown⟩ := hown
  subst hm
  obtain ⟨v', w', hrun, h2, h3⟩ := run_append_rd (P := Try.prog) w (ty := o.type) (c := c) (news := news.map bv) Try.underlying24 hi hz hs hby rfl hown hr (bv_one _) (by simpa using hb) (by unfold maxLen; simp; omega) hbase
  rw [List.length_map] at hrun
  unfold Oper.wp execOp
  simp only [ho, resolve, invoke, builtin, Sem.run_bind, Sem.run_pure, Result.andThen_ok, List.map_toArray, List.map_cons, List.map_nil, hv, hx, hrun]
  refine h v' w' ⟨base, Nat.le_trans hbase h3.1.size, ?_⟩ h3
  rw [List.map_append]
  exact h2

/-- A hash's variable, loaded whole. -/
theorem load_hash (w : World) (g : Nat) (x : List UInt8) (t : TypeId) (fr : Nat × Nat) (hx : x.length = 32) (hg : w.heap[g]? = some (.cells (x.map bv).toArray t fr)) :
    (Instr.loadAt 33 (.pointer (some ⟨g, 0, none⟩))).run Try.prog w = .ok (.agg (x.map bv).toArray) w := by
  have h := run_loadVar_row (P := Try.prog) w g t 33 (x.map bv).toArray fr _ hg Try.underlying33 rfl (by rw [List.size_toArray, List.length_map, hx]; exact size_hash)
  simp only [Instr.loadAt, Instr.sureAddr, Sem.run_bind, Sem.run_pure, Result.andThen_ok, h]

theorem sizeOf_u8 (w : World) : (sizeOf 5).run Try.prog w = .ok 1 w := by kernel_rfl
/-- Two hashes compared. -/
theorem eql_hash (x y : List UInt8) (hx : x.length = 32) (hy : y.length = 32) (w : World) :
    (binOp .eql 33 (.agg (x.map bv).toArray) (.agg (y.map bv).toArray)).run Try.prog w = .ok (.bool (x == y)) w :=
  run_eql_bytes w 33 5 32 Try.underlying33 Try.underlying5 sizeOf_u8 x y hx hy
theorem neq_hash (x y : List UInt8) (hx : x.length = 32) (hy : y.length = 32) (w : World) :
    (binOp .neq 33 (.agg (x.map bv).toArray) (.agg (y.map bv).toArray)).run Try.prog w = .ok (.bool (!(x == y))) w := by
  rw [run_neq_struct]
  have h := run_equalIn_bytes (P := Try.prog) w 9998 33 5 32 Try.underlying33 Try.underlying5 sizeOf_u8 x y hx hy
  have h' : (Op.equalIn 10000 33 (.agg (x.map bv).toArray) (.agg (y.map bv).toArray)).run Try.prog w = .ok (x == y) w := h
  rw [h']
  rfl
theorem min_text (n : Nat) (k : Nat) : ∃ m : Nat, (if (k : Int) < (n : Int) then (k : Int) else (n : Int)) = (m : Int) ∧ m ≤ n ∧ m ≤ k := min_some n k
end Go.Proofs.Ythccbbdabfpjcaa
