/- Rows of the call's own (of bytes, of any one-celled values), appended to; a hash's comparison: facts that need no function of the project. -/
import Derived.Test.YtmfnncfiaaeknaaDoorRows
import Derived.Test.YtmfnncfiaaeknaaDoorMem
import Derived.Stop.BytesEq
namespace Go.Proofs.YtmfnncfiaaeknaaDoor
open Go.RowKit

theorem info_u8 : (Tryd.prog.info? 5).map (fun i => (i.zero, i.size, i.bytes)) = some (some (.int .u8 0), 1, 1) := by kernel_rfl

/-- A row of bytes of the call's own. -/
def OwnB (w : World) (v : Value) (l : List UInt8) : Prop := ∃ base, base ≤ w.heap.size ∧ w.ownsRow base 5 1 v (l.map bv).length (l.map bv)

theorem OwnB.nil (w : World) : OwnB w (.slice none 0 0) [] := ⟨0, Nat.zero_le _, World.ownsRow_nil _ _ _ _⟩
theorem OwnB.slice {w : World} {v : Value} {l : List UInt8} (h : OwnB w v l) : ∃ A c, v = .slice A l.length c ∧ l.length ≤ c ∧ c ≤ maxLen ∧ RdB w A l := by
  obtain ⟨base, hb, h⟩ := h
  obtain ⟨A, c, rfl, h1, h2⟩ := own_slice h
  have hr := RdAt.ofOwn h
  rw [List.length_map] at *
  exact ⟨A, c, rfl, h1, h2, hr⟩
theorem OwnB.keep {w w' : World} {v : Value} {l : List UInt8} (h : OwnB w v l) {row : Option Nat} (hg : w.grownBy w' row) (hne : v.ownBlock = none ∨ v.ownBlock ≠ row) : OwnB w' v l := by
  obtain ⟨base, hb, h⟩ := h
  exact ⟨base, Nat.le_trans hb hg.size, h.kept hg hne⟩
theorem OwnB.kept {w w' : World} {v : Value} {l : List UInt8} (h : OwnB w v l) (hg : w.grownBy w' none) : OwnB w' v l := h.keep hg (by cases v.ownBlock <;> simp)
theorem OwnB.alloc {w : World} {v : Value} {l : List UInt8} (h : OwnB w v l) (o : Obj) : OwnB (w.alloc o) v l := h.kept (grown_alloc (grown_refl w none) o)
theorem OwnB.lt {w : World} {v : Value} {l : List UInt8} (h : OwnB w v l) : ∀ k, v.ownBlock = some k → k < w.heap.size := by
  obtain ⟨base, hb, h⟩ := h
  exact fun k hk => (h.lt k hk).2
/-- A literal slice of bytes: it reads so, and it is the call's own. -/
theorem rdB_new (w : World) (cs : Array Value) (t : TypeId) (l : List UInt8) (h : cs.toList = l.map bv) : RdB (w.alloc (.cells cs t)) (some ⟨w.heap.size, 0, none⟩) l := by
  refine .inr ⟨_, rfl, fun j u hu => ?_⟩
  have e : (⟨w.heap.size, 0, none⟩ : Addr).add j = ⟨w.heap.size, j, none⟩ := by
    unfold Addr.add; split <;> simp_all
  rw [e, cell_of_row _ _ j cs t (0, 0) (heap_alloc_new w _), ← Array.getElem?_toList, h]
  exact hu
theorem ownB_new (w : World) (cs : Array Value) (l : List UInt8) (n : Nat) (h : cs.toList = l.map bv) (hn : l.length = n) (hm : n ≤ maxLen) : OwnB (w.alloc (.cells cs 5)) (.slice (some ⟨w.heap.size, 0, none⟩) n n) l := by
  have hs : cs.size = n := by rw [← Array.length_toList, h, List.length_map, hn]
  refine ⟨w.heap.size, by simp, by simp, .inr ⟨w.heap.size, n, cs, by rw [List.length_map, hn], Nat.le_refl _, heap_alloc_new w _, by rw [List.length_map]; omega, hm, by omega, ?_⟩⟩
  rw [Nat.mul_one, List.take_of_length_le (by rw [h]; exact Nat.le_refl _), h]

/-- 'append(v, x...)' on bytes, v the call's own, x whatever reads so. -/
theorem wpList_appB (w : World) {ops : Array Oper} {rest : List Oper} {o : Oper} {a : Act} {Q : Exit → Act → World → Prop} (hgd : o.guard = none) (s x : Operand)
    (ho : o.op = .call { callee := .builtin .append, args := #[s, x], argTypes := #[24, 24] })
    {v : Value} {l : List UInt8} (hv : a.eval s = v) (hown : OwnB w v l) {A : Option Addr} {m c : Nat} {news : List UInt8} (hx : a.eval x = .slice A m c) (hm : m = news.length) (hr : RdB w A news)
    (hb : l.length + news.length ≤ 140737488355328)
    (h : ∀ v' w', OwnB w' v' (l ++ news) → Grew w w' v v' → wpList Tryd.prog ops Q rest (a.put o.dst v') w') : wpList Tryd.prog ops Q (o :: rest) a w := by
  obtain ⟨i, hi, hz, hs, hby⟩ := info_parts info_u8
  obtain ⟨base, hbase, hown⟩ := hown
  subst hm
  refine wpList_append_rd (P := Tryd.prog) w hgd s x 24 ho Tryd.underlying24 hi hz hs hby rfl hv hown (c := c) (news := news.map bv) (by rw [List.length_map]; exact hx) hr (bv_one _) (by simpa using hb) (by unfold maxLen; simp; omega) hbase ?_
  intro v' w' h1 h2
  refine h v' w' ⟨base, Nat.le_trans hbase h2.1.size, ?_⟩ h2
  rw [List.map_append]
  exact h1

theorem strCells_bv (s : ByteArray) : Lib.strCells s = s.data.toList.map bv := rfl
theorem run_append_str {P : Program} (w : World) {t u ty e : TypeId} {i : TypeInfo} {base : Nat} (ht : P.underlying t = some (.slice e)) (hu : P.underlying u = some .string) (hi : P.info? e = some i) (hz : i.zero = some (.int .u8 0))
    (hs : i.size = 1) (hb : i.bytes = 1) {v : Value} {l : List UInt8} (hown : w.ownsRow base e 1 v (l.map bv).length (l.map bv)) (s : ByteArray)
    (hle : l.length + s.size ≤ 140737488355328) (hbase : base ≤ w.heap.size) :
    ∃ v' w', (Builtin.append_ #[t, u] ty #[v, .string s]).run P w = .ok v' w' ∧ w'.ownsRow base e 1 v' ((l ++ s.data.toList).map bv).length ((l ++ s.data.toList).map bv) ∧ Grew w w' v v' := by
  have hsz : s.data.toList.length = s.size := Array.length_toList
  have hlen : (l.map bv).length = l.length := List.length_map _
  obtain ⟨v', w', hrun, ho, hg, _⟩ := Lib.run_append_own_string (P := P) w base t u ty e i ht hu hi hz hs hb v _ _ hown s (by rw [hlen]; unfold maxLen; omega) (by rw [hlen]; omega) hbase
  have ho' : w'.ownsRow base e 1 v' ((l ++ s.data.toList).map bv).length ((l ++ s.data.toList).map bv) := by
    have e1 : ((l ++ s.data.toList).map bv).length = (l.map bv).length + s.size := by simp
    rw [e1, List.map_append]; exact ho
  refine ⟨v', w', hrun, ho', hg, ?_⟩
  rcases hown.2 with ⟨rfl, hn⟩ | ⟨g, cap, cur, rfl, _, hgg, hnc, _, hcs, _⟩
  · by_cases hm : s.size = 0
    · have hr : (Builtin.append_ #[t, u] ty #[.slice none 0 0, .string s]).run P w = .ok (.slice none 0 0) w := by
        have hf := Lib.run_firstCells_string (P := P) w 1 s
        rw [hm] at hf
        simp [Builtin.append_, run_underlying ht, run_underlying hu, sizeOf, typeInfo, hi, hs, Builtin.lenOf, hm, hf]
      rw [hr] at hrun
      injection hrun with h1 _
      exact .inl (by rw [← h1])
    · have hr := run_append_nil_string (P := P) w t u ty e i (.int .u8 0) ht hu hi hz s (by omega) (by omega) (by rw [hb]; omega)
      rw [hr] at hrun
      injection hrun with h1 _
      exact .inr ⟨w.heap.size, by rw [← h1]; rfl, Nat.le_refl _⟩
  · by_cases hroom : (l.map bv).length + s.size ≤ cap
    · have hr := Lib.run_append_room_string (P := P) w t u ty e i ht hu hi hs g _ cap cur hgg s hroom (by omega)
      rw [hr] at hrun
      injection hrun with h1 _
      exact .inl (by rw [← h1]; rfl)
    · have hr := Lib.run_append_grow_string (P := P) w t u ty e i (.int .u8 0) ht hu hi hz ⟨g, 0, none⟩ _ cap _ (by rw [hs, Nat.mul_one]) (hown.cells (g := g) rfl) s (by omega) (by omega) (by rw [hb]; exact growslice_fits (by omega) (by omega))
      rw [hr] at hrun
      injection hrun with h1 _
      exact .inr ⟨w.heap.size, by rw [← h1]; rfl, Nat.le_refl _⟩

theorem ofNat_u8 {n : Nat} (h : n < 256) : ((UInt8.ofNat n).toNat : Int) = n := by rw [UInt8.toNat_ofNat']; omega
theorem size_hash : (Tryd.prog.info? 23).map (·.size) = some 32 := by kernel_rfl
/-- 'append(v, x...)' on bytes as a step of a region that draws. -/
theorem step_appB {ops : Array Oper} {o : Oper} {a : Act} {w : World} {K : Act → World → Prop} {Q : Exit → Act → World → Prop} {E : Prop} (hgd : o.guard = none) (s x : Operand)
    (ho : o.op = .call { callee := .builtin .append, args := #[s, x], argTypes := #[24, 24] })
    {v : Value} {l : List UInt8} (hv : a.eval s = v) (hown : OwnB w v l) {A : Option Addr} {m c : Nat} {news : List UInt8} (hx : a.eval x = .slice A m c) (hm : m = news.length) (hr : RdB w A news)
    (hb : l.length + news.length ≤ 140737488355328)
    (h : ∀ v' w', OwnB w' v' (l ++ news) → Grew w w' v v' → K (a.put o.dst v') w') :
    if Region.wanted o (yielded ops a.tmps) = true then Oper.wp Tryd.prog o a w K Q else E := by
  have hw : Region.wanted o (yielded ops a.tmps) = true := by simp [Region.wanted, hgd]
  rw [if_pos hw]
  obtain ⟨i, hi, hz, hs, hby⟩ := info_parts info_u8
  obtain ⟨base, hbase, hown⟩ := hown
  subst hm
  obtain ⟨v', w', hrun, h2, h3⟩ := run_append_rd (P := Tryd.prog) w (ty := o.type) (c := c) (news := news.map bv) Tryd.underlying24 hi hz hs hby rfl hown hr (bv_one _) (by simpa using hb) (by unfold maxLen; simp; omega) hbase
  rw [List.length_map] at hrun
  unfold Oper.wp execOp
  simp only [ho, resolve, invoke, builtin, Sem.run_bind, Sem.run_pure, Result.andThen_ok, List.map_toArray, List.map_cons, List.map_nil, hv, hx, hrun]
  refine h v' w' ⟨base, Nat.le_trans hbase h3.1.size, ?_⟩ h3
  rw [List.map_append]
  exact h2

/-- A hash's variable, loaded whole. -/
theorem load_hash (w : World) (g : Nat) (x : List UInt8) (t : TypeId) (fr : Nat × Nat) (hx : x.length = 32) (hg : w.heap[g]? = some (.cells (x.map bv).toArray t fr)) :
    (Instr.loadAt 23 (.pointer (some ⟨g, 0, none⟩))).run Tryd.prog w = .ok (.agg (x.map bv).toArray) w := by
  have h := run_loadVar_row (P := Tryd.prog) w g t 23 (x.map bv).toArray fr _ hg Tryd.underlying23 rfl (by rw [List.size_toArray, List.length_map, hx]; exact size_hash)
  simp only [Instr.loadAt, Instr.sureAddr, Sem.run_bind, Sem.run_pure, Result.andThen_ok, h]

theorem sizeOf_u8 (w : World) : (sizeOf 5).run Tryd.prog w = .ok 1 w := by kernel_rfl
/-- Two hashes compared. -/
theorem eql_hash (x y : List UInt8) (hx : x.length = 32) (hy : y.length = 32) (w : World) :
    (binOp .eql 23 (.agg (x.map bv).toArray) (.agg (y.map bv).toArray)).run Tryd.prog w = .ok (.bool (x == y)) w :=
  run_eql_bytes w 23 5 32 Tryd.underlying23 Tryd.underlying5 sizeOf_u8 x y hx hy
theorem neq_hash (x y : List UInt8) (hx : x.length = 32) (hy : y.length = 32) (w : World) :
    (binOp .neq 23 (.agg (x.map bv).toArray) (.agg (y.map bv).toArray)).run Tryd.prog w = .ok (.bool (!(x == y))) w := by
  rw [run_neq_struct]
  have h := run_equalIn_bytes (P := Tryd.prog) w 9998 23 5 32 Tryd.underlying23 Tryd.underlying5 sizeOf_u8 x y hx hy
  have h' : (Op.equalIn 10000 23 (.agg (x.map bv).toArray) (.agg (y.map bv).toArray)).run Tryd.prog w = .ok (x == y) w := h
  rw [h']
  rfl
/-- A row of the call's own, its cells as values, of element type e. -/
def OwnV (e : TypeId) (w : World) (v : Value) (xs : List Value) : Prop := ∃ base, base ≤ w.heap.size ∧ w.ownsRow base e 1 v xs.length xs

section
variable {e : TypeId} {w w' : World} {v : Value} {xs : List Value}
theorem OwnV.nil (w : World) : OwnV e w (.slice none 0 0) [] := ⟨0, Nat.zero_le _, World.ownsRow_nil _ _ _ _⟩
theorem OwnV.slice (h : OwnV e w v xs) : ∃ A c, v = .slice A xs.length c ∧ xs.length ≤ c ∧ c ≤ maxLen ∧ RdAt w A xs := by
  obtain ⟨base, hb, h⟩ := h
  obtain ⟨A, c, rfl, h1, h2⟩ := own_slice h
  exact ⟨A, c, rfl, h1, h2, RdAt.ofOwn h⟩
theorem OwnV.keep (h : OwnV e w v xs) {row : Option Nat} (hg : w.grownBy w' row) (hne : v.ownBlock = none ∨ v.ownBlock ≠ row) : OwnV e w' v xs := by
  obtain ⟨base, hb, h⟩ := h
  exact ⟨base, Nat.le_trans hb hg.size, h.kept hg hne⟩
theorem OwnV.kept (h : OwnV e w v xs) (hg : w.grownBy w' none) : OwnV e w' v xs := h.keep hg (by cases v.ownBlock <;> simp)
theorem OwnV.alloc (h : OwnV e w v xs) (o : Obj) : OwnV e (w.alloc o) v xs := h.kept (grown_alloc (grown_refl w none) o)
theorem OwnV.lt (h : OwnV e w v xs) : ∀ k, v.ownBlock = some k → k < w.heap.size := by
  obtain ⟨base, hb, h⟩ := h
  exact fun k hk => (h.lt k hk).2
/-- The block that a row lies in has its element type. -/
theorem OwnV.block (h : OwnV e w v xs) : ∀ k, v.ownBlock = some k → ∃ cs fr, w.heap[k]? = some (.cells cs e fr) := by
  obtain ⟨base, hb, h⟩ := h
  intro k hk
  rcases h.2 with ⟨rfl, _⟩ | ⟨g, cap, cur, rfl, _, hg, _⟩
  · simp [Value.ownBlock] at hk
  · simp [Value.ownBlock] at hk
    subst hk
    exact ⟨_, _, hg⟩
/-- Rows of unlike types lie apart. -/
theorem OwnV.apart {e' : TypeId} {v' : Value} {xs' : List Value} (h : OwnV e w v xs) (h' : OwnV e' w v' xs') (hne : e ≠ e') : v.ownBlock = none ∨ v.ownBlock ≠ v'.ownBlock := by
  cases hb : v.ownBlock with
  | none => exact .inl rfl
  | some k =>
    refine .inr fun e1 => ?_
    obtain ⟨cs, fr, h1⟩ := h.block k hb
    obtain ⟨cs', fr', h2⟩ := h'.block k e1.symm
    rw [h1] at h2
    injection h2 with h2
    injection h2 with _ h2
    exact hne h2
theorem ownV_new (w : World) (e : TypeId) (cs : Array Value) (xs : List Value) (n : Nat) (h : cs.toList = xs) (hn : xs.length = n) (hm : n ≤ maxLen) : OwnV e (w.alloc (.cells cs e)) (.slice (some ⟨w.heap.size, 0, none⟩) n n) xs := by
  have hs : cs.size = n := by rw [← Array.length_toList, h, hn]
  refine ⟨w.heap.size, by simp, by simp [hn], .inr ⟨w.heap.size, n, cs, by rw [hn], Nat.le_refl _, heap_alloc_new w _, by omega, hm, by omega, ?_⟩⟩
  rw [Nat.mul_one, List.take_of_length_le (by rw [h]; exact Nat.le_refl _), h]
end

theorem OwnB.toV {w : World} {v : Value} {l : List UInt8} (h : OwnB w v l) : OwnV 5 w v (l.map bv) := h
theorem Grew.keepNew {a b c : World} {u v : Value} (h : Grew a b u v) (k : a.grownBy c u.ownBlock) : Grew a c u v := ⟨k, h.2⟩

/-- 'append(v, x...)', v the call's own. -/
theorem wpList_appV (w : World) {ops : Array Oper} {rest : List Oper} {o : Oper} {a : Act} {Q : Exit → Act → World → Prop} (hgd : o.guard = none) (s x : Operand) (t : TypeId)
    (ho : o.op = .call { callee := .builtin .append, args := #[s, x], argTypes := #[t, t] }) {e : TypeId} {z : Value} {bytes : Nat} (ht : Tryd.prog.underlying t = some (.slice e))
    (hinfo : (Tryd.prog.info? e).map (fun i => (i.zero, i.size, i.bytes)) = some (some z, 1, bytes)) (hz : z.cells.size = 1)
    {v : Value} {l : List Value} (hv : a.eval s = v) (hown : OwnV e w v l) {A : Option Addr} {m c : Nat} {news : List Value} (hx : a.eval x = .slice A m c) (hm : m = news.length) (hr : RdAt w A news) (h1 : ∀ u ∈ news, u.oneCell' = true)
    (hb : (l.length + news.length) * bytes ≤ 140737488355328) (hl : l.length + news.length ≤ maxLen)
    (h : ∀ v' w', OwnV e w' v' (l ++ news) → Grew w w' v v' → wpList Tryd.prog ops Q rest (a.put o.dst v') w') : wpList Tryd.prog ops Q (o :: rest) a w := by
  obtain ⟨i, hi, hz', hs, hby⟩ := info_parts hinfo
  obtain ⟨base, hbase, hown⟩ := hown
  subst hm
  refine wpList_append_rd (P := Tryd.prog) w hgd s x t ho ht hi hz' hs hby hz hv hown (c := c) hx hr h1 hb hl hbase ?_
  intro v' w' h2 h3
  exact h v' w' ⟨base, Nat.le_trans hbase h3.1.size, h2⟩ h3

theorem step_appV {ops : Array Oper} {o : Oper} {a : Act} {w : World} {K : Act → World → Prop} {Q : Exit → Act → World → Prop} {E : Prop} (hgd : o.guard = none) (s x : Operand) (t : TypeId)
    (ho : o.op = .call { callee := .builtin .append, args := #[s, x], argTypes := #[t, t] }) {e : TypeId} {z : Value} {bytes : Nat} (ht : Tryd.prog.underlying t = some (.slice e))
    (hinfo : (Tryd.prog.info? e).map (fun i => (i.zero, i.size, i.bytes)) = some (some z, 1, bytes)) (hz : z.cells.size = 1)
    {v : Value} {l : List Value} (hv : a.eval s = v) (hown : OwnV e w v l) {A : Option Addr} {m c : Nat} {news : List Value} (hx : a.eval x = .slice A m c) (hm : m = news.length) (hr : RdAt w A news) (h1 : ∀ u ∈ news, u.oneCell' = true)
    (hb : (l.length + news.length) * bytes ≤ 140737488355328) (hl : l.length + news.length ≤ maxLen)
    (h : ∀ v' w', OwnV e w' v' (l ++ news) → Grew w w' v v' → K (a.put o.dst v') w') :
    if Region.wanted o (yielded ops a.tmps) = true then Oper.wp Tryd.prog o a w K Q else E := by
  have hw : Region.wanted o (yielded ops a.tmps) = true := by simp [Region.wanted, hgd]
  rw [if_pos hw]
  obtain ⟨i, hi, hz', hs, hby⟩ := info_parts hinfo
  obtain ⟨base, hbase, hown⟩ := hown
  subst hm
  obtain ⟨v', w', hrun, h2, h3⟩ := run_append_rd (P := Tryd.prog) w (ty := o.type) (c := c) ht hi hz' hs hby hz hown hr h1 hb hl hbase
  unfold Oper.wp execOp
  simp only [ho, resolve, invoke, builtin, Sem.run_bind, Sem.run_pure, Result.andThen_ok, List.map_toArray, List.map_cons, List.map_nil, hv, hx, hrun]
  exact h v' w' ⟨base, Nat.le_trans hbase h3.1.size, h2⟩ h3

theorem heap_setCell_to {w : World} {g i : Nat} {cs cs' : Array Value} {t : TypeId} {v : Value} (hg : w.heap[g]? = some (.cells cs t (0, 0))) (hcs : cs.setIfInBounds i v = cs') :
    (w.setCell ⟨g, i, none⟩ v).heap[g]? = some (.cells cs' t (0, 0)) := by rw [← hcs]; exact heap_setCell_same w g i cs t v hg
theorem rd_takeB {w : World} {A : Option Addr} {l : List UInt8} (h : RdB w A l) (n : Nat) : RdB w A (l.take n) := by
  have := RdAt.take h n
  rw [← List.map_take] at this
  exact this

theorem min_some (n k : Nat) : ∃ m : Nat, (if (k : Int) < (n : Int) then (k : Int) else (n : Int)) = (m : Int) ∧ m ≤ n ∧ m ≤ k := by
  by_cases h : (k : Int) < (n : Int)
  · exact ⟨k, by rw [if_pos h], by omega, Nat.le_refl _⟩
  · exact ⟨n, by rw [if_neg h], Nat.le_refl _, by omega⟩

end Go.Proofs.YtmfnncfiaaeknaaDoor
