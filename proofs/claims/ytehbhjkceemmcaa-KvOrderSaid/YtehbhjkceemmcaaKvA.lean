/- Rows of pairs (a key, a value): how they lie in memory, rows of the call's own; keys in their order. -/
import Derived.Test.YtehbhjkceemmcaaKA
import Derived.Test.YtehbhjkceemmcaaBook
import Derived.Deep.AppendLies
import Derived.Deep.SlicePairs
import Derived.Lib.Bytealg
import Derived.Laws.Cover1
namespace Go.Proofs.Ytehbhjkceemmcaa
open Go.RowKit

/-! ## Keys in their order -/

/-- Is the first one below the second one, byte by byte? -/
abbrev kl (a b : List UInt8) : Bool := Op.bytesLess a b
theorem kl_cons (x y : UInt8) (a b : List UInt8) : kl (x :: a) (y :: b) = (decide (x < y) || (x == y && kl a b)) := rfl
theorem kl_nil (a : List UInt8) : kl a [] = false := by cases a <;> rfl
theorem kl_irr : ∀ a : List UInt8, kl a a = false
  | [] => rfl
  | x :: a => by
    rw [kl_cons, kl_irr a]
    simp [UInt8.lt_irrefl]
theorem u8_tri {x y : UInt8} (h : ¬ x < y) (h' : ¬ y < x) : x = y := UInt8.le_antisymm (UInt8.not_lt.1 h') (UInt8.not_lt.1 h)
theorem kl_trans : ∀ {a b c : List UInt8}, kl a b = true → kl b c = true → kl a c = true
  | _, _, [], _, h => by rw [kl_nil] at h; cases h
  | _, [], _ :: _, h, _ => by rw [kl_nil] at h; cases h
  | [], _ :: _, _ :: _, _, _ => rfl
  | x :: a, y :: b, z :: c, h, h' => by
    rw [kl_cons] at h h' ⊢
    simp only [Bool.or_eq_true, decide_eq_true_eq, Bool.and_eq_true, beq_iff_eq] at h h' ⊢
    rcases h with h | ⟨rfl, h⟩
    · rcases h' with h' | ⟨rfl, _⟩
      · exact .inl (UInt8.lt_trans h h')
      · exact .inl h
    · rcases h' with h' | ⟨rfl, h'⟩
      · exact .inl h'
      · exact .inr ⟨rfl, kl_trans h h'⟩
theorem kl_tri : ∀ {a b : List UInt8}, kl a b = false → kl b a = false → a = b
  | [], [], _, _ => rfl
  | [], _ :: _, h, _ => by cases h
  | _ :: _, [], _, h => by cases h
  | x :: a, y :: b, h, h' => by
    rw [kl_cons] at h h'
    simp only [Bool.or_eq_false_iff, decide_eq_false_iff_not, Bool.and_eq_false_imp, beq_iff_eq] at h h'
    obtain rfl := u8_tri h.1 h'.1
    rw [kl_tri (h.2 rfl) (h'.2 rfl)]
theorem kl_asymm {a b : List UInt8} (h : kl a b = true) : kl b a = false := by
  cases h' : kl b a
  · rfl
  · have := kl_trans h h'
    rw [kl_irr] at this; cases this
/-- From below on. -/
theorem kl_ge_trans {a b c : List UInt8} (h : kl a b = false) (h' : kl b c = false) : kl a c = false := by
  cases hc : kl a c
  · rfl
  · cases hb : kl b a
    · have := kl_tri h hb
      subst this
      rw [h'] at hc; cases hc
    · rw [kl_trans hb hc] at h'; cases h'
theorem kl_lt_of {a b c : List UInt8} (h : kl a b = true) (h' : kl c b = false) : kl a c = true := by
  cases hc : kl a c
  · rw [kl_ge_trans hc h'] at h; cases h
  · rfl
theorem kl_lt_of' {a b c : List UInt8} (h : kl b a = false) (h' : kl b c = true) : kl a c = true := by
  cases hc : kl a c
  · rw [kl_ge_trans h hc] at h'; cases h'
  · rfl
theorem cmp_lt : ∀ (a b : List UInt8), decide (Lib.compareBytes a b < 0) = kl a b
  | [], [] => by decide
  | [], _ :: _ => by simp [Lib.compareBytes, Op.bytesLess]
  | _ :: _, [] => by simp [Lib.compareBytes, Op.bytesLess]
  | x :: a, y :: b => by
    have ih := cmp_lt a b
    rw [kl_cons, Lib.compareBytes]
    by_cases h : x < y
    · simp [h]
    · rw [if_neg h]
      by_cases h' : y < x
      · rw [if_pos h']
        have : x ≠ y := by rintro rfl; exact h h'
        simp [h, this]
      · rw [if_neg h', ih]
        obtain rfl := u8_tri h h'
        simp [h]
theorem cmp_eq : ∀ (a b : List UInt8), decide (Lib.compareBytes a b = 0) = decide (a = b)
  | [], [] => by decide
  | [], _ :: _ => by simp [Lib.compareBytes]
  | _ :: _, [] => by simp [Lib.compareBytes]
  | x :: a, y :: b => by
    have ih := cmp_eq a b
    rw [Lib.compareBytes]
    by_cases h : x < y
    · have : x ≠ y := by rintro rfl; exact UInt8.lt_irrefl _ h
      simp [h, this]
    · rw [if_neg h]
      by_cases h' : y < x
      · have : x ≠ y := by rintro rfl; exact h h'
        simp [h', this]
      · rw [if_neg h', ih]
        obtain rfl := u8_tri h h'
        simp

/-! ## Pairs in memory -/

abbrev Kv := List UInt8 × List UInt8
/-- A pair as a value. -/
def qv (p : Kv) : Value := .agg #[sv p.1, sv p.2]
/-- Pairs as cells, two each. -/
def qcs : List Kv → List Value
  | [] => []
  | p :: ps => sv p.1 :: sv p.2 :: qcs ps
theorem qcs_len : ∀ ps, (qcs ps).length = ps.length * 2
  | [] => rfl
  | p :: ps => by simp [qcs, qcs_len ps]; omega
theorem qcs_append : ∀ ps qs, qcs (ps ++ qs) = qcs ps ++ qcs qs
  | [], _ => rfl
  | p :: ps, qs => by simp [qcs, qcs_append ps qs]
theorem qcs_take : ∀ ps k, (qcs ps).take (k * 2) = qcs (ps.take k)
  | ps, 0 => by simp [qcs]
  | [], k + 1 => by simp [qcs]
  | p :: ps, k + 1 => by
    rw [show (k + 1) * 2 = k * 2 + 2 by omega]
    show sv p.1 :: sv p.2 :: (qcs ps).take (k * 2) = sv p.1 :: sv p.2 :: qcs (ps.take k)
    rw [qcs_take ps k]
theorem qcs_drop : ∀ ps k, (qcs ps).drop (k * 2) = qcs (ps.drop k)
  | ps, 0 => by simp
  | [], k + 1 => by simp [qcs]
  | p :: ps, k + 1 => by
    rw [show (k + 1) * 2 = k * 2 + 2 by omega]
    exact qcs_drop ps k
theorem qcs_get : ∀ (ps : List Kv) (k : Nat) (h : k < ps.length), (qcs ps)[k * 2]? = some (sv ps[k].1) ∧ (qcs ps)[k * 2 + 1]? = some (sv ps[k].2)
  | p :: ps, 0, _ => ⟨rfl, rfl⟩
  | p :: ps, k + 1, h => by
    have := qcs_get ps k (by simpa using h)
    rw [show (k + 1) * 2 = k * 2 + 2 by omega, qcs]
    exact this
theorem qcs_one : ∀ ps : List Kv, ∀ u ∈ qcs ps, u.oneCell' = true
  | [], u, h => by cases h
  | p :: ps, u, h => by
    simp only [qcs, List.mem_cons] at h
    rcases h with rfl | rfl | h
    · rfl
    · rfl
    · exact qcs_one ps u h
theorem qcs_nil {ps : List Kv} (h : qcs ps = []) : ps = [] := by cases ps <;> simp_all [qcs]

theorem add_one (a : Addr) : a.add 1 = ⟨a.block, a.off + 1, none⟩ := by unfold Addr.add; simp
/-- From the address A on the pairs are there. -/
abbrev RdQ (w : World) (A : Option Addr) (ps : List Kv) : Prop := RdAt w A (qcs ps)
theorem RdQ.get {w : World} {A : Option Addr} {ps : List Kv} (h : RdQ w A ps) {k : Nat} (hk : k < ps.length) :
    ∃ ad, A = some ad ∧ w.cell? (ad.add (k * 2)) = some (sv ps[k].1) ∧ w.cell? ⟨(ad.add (k * 2)).block, (ad.add (k * 2)).off + 1, none⟩ = some (sv ps[k].2) := by
  rcases h with h | ⟨ad, hA, hc⟩
  · rw [qcs_nil h] at hk; cases hk
  · obtain ⟨h1, h2⟩ := qcs_get ps k hk
    exact ⟨ad, hA, hc _ _ h1, by rw [← add_one, add_add]; exact hc _ _ h2⟩
/-- The cells of a pair, for its load. -/
theorem RdQ.cells {w : World} {A : Option Addr} {ps : List Kv} (h : RdQ w A ps) {k : Nat} (hk : k < ps.length) :
    ∃ ad, A = some ad ∧ ∀ j u, [sv ps[k].1, sv ps[k].2][j]? = some u → w.cell? ((ad.add (k * 2)).add j) = some u := by
  obtain ⟨ad, hA, h1, h2⟩ := h.get hk
  refine ⟨ad, hA, fun j u hu => ?_⟩
  match j, hu with
  | 0, hu => cases hu; rw [add_add, Nat.add_zero]; exact h1
  | 1, hu => cases hu; rw [add_one]; exact h2
theorem RdQ.take {w : World} {A : Option Addr} {ps : List Kv} (h : RdQ w A ps) (k : Nat) : RdQ w A (ps.take k) := by
  show RdAt w A (qcs (ps.take k))
  rw [← qcs_take]; exact RdAt.take h _
theorem RdQ.cut {w : World} {A : Option Addr} {ps : List Kv} (h : RdQ w A ps) {k c : Nat} (hc : ps.length ≤ c) : RdQ w (if c = k then A else A.map (·.add (k * 2))) (ps.drop k) := by
  show RdAt w _ (qcs (ps.drop k))
  by_cases e : c = k
  · rw [if_pos e, List.drop_eq_nil_of_le (by omega)]; exact RdAt.nil
  · rw [if_neg e, ← qcs_drop]; exact RdAt.drop h _

/-- A pair lies there. -/
def AtQ (w : World) (ad : Addr) (p : Kv) : Prop := w.cell? ad = some (sv p.1) ∧ w.cell? ⟨ad.block, ad.off + 1, none⟩ = some (sv p.2)
theorem AtQ.keep {w w' : World} {ad : Addr} {p : Kv} (h : AtQ w ad p) {row : Option Nat} (hg : w.grownBy w' row) (hne : some ad.block ≠ row) : AtQ w' ad p :=
  ⟨hg.cell h.1 hne, hg.cell h.2 hne⟩
theorem AtQ.kept {w w' : World} {ad : Addr} {p : Kv} (h : AtQ w ad p) (hg : w.grownBy w' none) : AtQ w' ad p := h.keep hg (by simp)
theorem RdQ.at {w : World} {A : Option Addr} {ps : List Kv} (h : RdQ w A ps) {k : Nat} (hk : k < ps.length) : ∃ ad, A = some ad ∧ AtQ w (ad.add (k * 2)) ps[k] := RdQ.get h hk
/-- A slice that reads as these pairs. -/
def PS (w : World) (v : Value) (ps : List Kv) : Prop := ∃ A c, v = .slice A ps.length c ∧ ps.length ≤ c ∧ RdQ w A ps
theorem PS.kept {w w' : World} {v : Value} {ps : List Kv} (h : PS w v ps) (hg : w.grownBy w' none) : PS w' v ps := by
  obtain ⟨A, c, e, hc, hr⟩ := h
  exact ⟨A, c, e, hc, hr.kept hg⟩
theorem PS.nil (w : World) : PS w (.slice none 0 0) [] := ⟨none, 0, rfl, Nat.le_refl _, RdAt.nil⟩

/-- .. and that lies in memory. -/
def PB (w : World) (v : Value) (ps : List Kv) : Prop := PS w v ps ∧ ∀ g, v.ownBlock = some g → g < w.heap.size
theorem PB.kept {w w' : World} {v : Value} {ps : List Kv} (h : PB w v ps) (hg : w.grownBy w' none) : PB w' v ps := ⟨h.1.kept hg, fun g e => Nat.lt_of_lt_of_le (h.2 g e) hg.size⟩
theorem PB.nil (w : World) : PB w (.slice none 0 0) [] := ⟨PS.nil w, fun g e => by cases e⟩
theorem PB.form {w : World} {v : Value} {ps : List Kv} (h : PB w v ps) : ∃ A c, v = .slice A ps.length c ∧ ps.length ≤ c ∧ RdQ w A ps ∧ ∀ ad, A = some ad → ad.block < w.heap.size := by
  obtain ⟨⟨A, c, rfl, hc, hr⟩, hb⟩ := h
  exact ⟨A, c, rfl, hc, hr, fun ad e => hb _ (by rw [e]; rfl)⟩

/-! ## Rows of pairs of the call's own -/

theorem info_kv : (Try.prog.info? 26).map (fun i => (i.zero, i.size, i.bytes)) = some (some (.agg #[.string ⟨#[]⟩, .string ⟨#[]⟩]), 2, 32) := by kernel_rfl
theorem size_kv : (Try.prog.info? 26).map (·.size) = some 2 := by kernel_rfl
theorem wp_load_kv {o : Oper} {a : Act} {w : World} {K : Act → World → Prop} {Q : Exit → Act → World → Prop} {x : Operand} (ho : o.op = .load 26 x)
    {ad : Addr} (hx : a.eval x = .pointer (some ad)) {p : Kv} (hc : AtQ w ad p) (h : K (a.put o.dst (.agg #[.string ⟨p.1.toArray⟩, .string ⟨p.2.toArray⟩])) w) : Oper.wp Try.prog o a w K Q := by
  unfold Oper.wp execOp
  have hl := run_loadVar_cells (P := Try.prog) w ad 26 [sv p.1, sv p.2] _ (fun j u hu => by
    match j, hu with
    | 0, hu => cases hu; have e : ad.add 0 = ad := by unfold Addr.add; split <;> simp_all
               rw [e]; exact hc.1
    | 1, hu => cases hu; rw [add_one]; exact hc.2) Try.underlying26 rfl size_kv
  simp only [ho, hx, Instr.loadAt, Instr.sureAddr, Sem.run_bind, Sem.run_pure, Result.andThen_ok, hl]
  exact h
theorem wpList_load_kv {ops : Array Oper} {rest : List Oper} {o : Oper} {a : Act} {w : World} {Q : Exit → Act → World → Prop} (hw : Region.wanted o (yielded ops a.tmps) = true) (x : Operand) (ho : o.op = .load 26 x)
    (ad : Addr) (hx : a.eval x = .pointer (some ad)) (p : Kv) (hc : AtQ w ad p) (h : wpList Try.prog ops Q rest (a.put o.dst (.agg #[.string ⟨p.1.toArray⟩, .string ⟨p.2.toArray⟩])) w) : wpList Try.prog ops Q (o :: rest) a w := by
  refine wpList_step fun K hK => ?_
  simp only [hw, if_true]
  unfold Oper.wp execOp
  have hl := run_loadVar_cells (P := Try.prog) w ad 26 [sv p.1, sv p.2] _ (fun j u hu => by
    match j, hu with
    | 0, hu => cases hu; have e : ad.add 0 = ad := by unfold Addr.add; split <;> simp_all
               rw [e]; exact hc.1
    | 1, hu => cases hu; rw [add_one]; exact hc.2) Try.underlying26 rfl size_kv
  simp only [ho, hx, Instr.loadAt, Instr.sureAddr, Sem.run_bind, Sem.run_pure, Result.andThen_ok, hl]
  exact hK _ _ h
def OwnQ (w : World) (v : Value) (ps : List Kv) : Prop := ∃ base, base ≤ w.heap.size ∧ w.ownsRow base 26 2 v ps.length (qcs ps)
section
variable {w w' : World} {v : Value} {ps : List Kv}
theorem OwnQ.nil (w : World) : OwnQ w (.slice none 0 0) [] := ⟨0, Nat.zero_le _, by simp [qcs], .inl ⟨rfl, rfl⟩⟩
theorem OwnQ.keep (h : OwnQ w v ps) {row : Option Nat} (hg : w.grownBy w' row) (hne : v.ownBlock = none ∨ v.ownBlock ≠ row) : OwnQ w' v ps := by
  obtain ⟨base, hb, h⟩ := h
  exact ⟨base, Nat.le_trans hb hg.size, h.kept hg hne⟩
theorem OwnQ.kept (h : OwnQ w v ps) (hg : w.grownBy w' none) : OwnQ w' v ps := h.keep hg (by cases v.ownBlock <;> simp)
theorem OwnQ.lt (h : OwnQ w v ps) : ∀ k, v.ownBlock = some k → k < w.heap.size := by
  obtain ⟨base, hb, _, h⟩ := h
  rcases h with ⟨rfl, _⟩ | ⟨g, cap, cur, rfl, _, hg, _⟩
  · intro k e; cases e
  · intro k e
    simp only [Value.ownBlock, Option.some.injEq] at e
    subst e
    exact (Array.getElem?_eq_some_iff.1 hg).1
theorem OwnQ.toPS (h : OwnQ w v ps) : PS w v ps := by
  obtain ⟨base, hb, h⟩ := h
  obtain ⟨A, c, rfl, h1, h2⟩ := own_slice h
  exact ⟨A, c, rfl, h1, RdAt.ofOwn h⟩
end
theorem OwnQ.toPB {w : World} {v : Value} {ps : List Kv} (h : OwnQ w v ps) : PB w v ps := ⟨h.toPS, h.lt⟩
theorem wp_appQ {o : Oper} {a : Act} {w : World} {K : Act → World → Prop} {Q : Exit → Act → World → Prop} {s x : Operand}
    (ho : o.op = .call { callee := .builtin .append, args := #[s, x], argTypes := #[22, 22] })
    {v : Value} {ps : List Kv} (hv : a.eval s = v) (hown : OwnQ w v ps) {A : Option Addr} {m c : Nat} {qs : List Kv} (hx : a.eval x = .slice A m c) (hm : m = qs.length) (hr : RdQ w A qs) (hb : ps.length + m ≤ 1000000000)
    (h : ∀ v' w', OwnQ w' v' (ps ++ qs) → Grew w w' v v' → K (a.put o.dst v') w') : Oper.wp Try.prog o a w K Q := by
  obtain ⟨i, hi, hz, hs, hby⟩ := info_parts info_kv
  obtain ⟨base, hbase, hown⟩ := hown
  subst hm
  rcases hr with e | ⟨ad, rfl, hc⟩
  · obtain rfl := qcs_nil e
    have hrun := run_append_empty (P := Try.prog) w (ty := o.type) Try.underlying22 hi hown A c
    unfold Oper.wp execOp
    simp only [ho, resolve, invoke, builtin, Sem.run_bind, Sem.run_pure, Result.andThen_ok, List.map_toArray, List.map_cons, List.map_nil, hv, hx, List.length_nil, hrun]
    exact h v w (by rw [List.append_nil]; exact ⟨base, hbase, hown⟩) (Grew.refl w v)
  · rcases Nat.eq_zero_or_pos qs.length with h0 | hpos
    · obtain rfl := List.eq_nil_of_length_eq_zero h0
      have hrun := run_append_empty (P := Try.prog) w (ty := o.type) Try.underlying22 hi hown (some ad) c
      unfold Oper.wp execOp
      simp only [ho, resolve, invoke, builtin, Sem.run_bind, Sem.run_pure, Result.andThen_ok, List.map_toArray, List.map_cons, List.map_nil, hv, hx, List.length_nil, hrun]
      exact h v w (by rw [List.append_nil]; exact ⟨base, hbase, hown⟩) (Grew.refl w v)
    · refine wp_append_lies w s x 22 ho base 26 i _ 2 32 Try.underlying22 hi hz hs hby rfl (by omega) v ps.length (qcs ps) hv hown ad qs.length c (qcs qs) hx (qcs_len _) hc (qcs_one _) hpos (by unfold maxLen; omega) (by omega) hbase _ rfl ?_
      intro g cap w' h1 h2 h3 _
      refine h _ w' ⟨base, Nat.le_trans hbase h2.size, by rw [qcs_append, List.length_append]; exact h1⟩ ⟨h2, ?_⟩
      rcases h3 with h3 | h3
      · exact .inl h3.symm
      · exact .inr ⟨g, rfl, by omega⟩
theorem wpList_appQ {ops : Array Oper} {rest : List Oper} {o : Oper} {a : Act} {w : World} {Q : Exit → Act → World → Prop} (hgd : o.guard = none) (s x : Operand)
    (ho : o.op = .call { callee := .builtin .append, args := #[s, x], argTypes := #[22, 22] })
    {v : Value} {ps : List Kv} (hv : a.eval s = v) (hown : OwnQ w v ps) {A : Option Addr} {m c : Nat} {qs : List Kv} (hx : a.eval x = .slice A m c) (hm : m = qs.length) (hr : RdQ w A qs) (hb : ps.length + m ≤ 1000000000)
    (h : ∀ v' w', OwnQ w' v' (ps ++ qs) → Grew w w' v v' → wpList Try.prog ops Q rest (a.put o.dst v') w') : wpList Try.prog ops Q (o :: rest) a w :=
  wpList_plain hgd fun _ hK => wp_appQ ho hv hown hx hm hr hb fun v' w' h1 h2 => hK _ _ (h v' w' h1 h2)
theorem step_appQ {ops : Array Oper} {o : Oper} {a : Act} {w : World} {K : Act → World → Prop} {Q : Exit → Act → World → Prop} {E : Prop} (hgd : o.guard = none) (s x : Operand)
    (ho : o.op = .call { callee := .builtin .append, args := #[s, x], argTypes := #[22, 22] })
    {v : Value} {ps : List Kv} (hv : a.eval s = v) (hown : OwnQ w v ps) {A : Option Addr} {m c : Nat} {qs : List Kv} (hx : a.eval x = .slice A m c) (hm : m = qs.length) (hr : RdQ w A qs) (hb : ps.length + m ≤ 1000000000)
    (h : ∀ v' w', OwnQ w' v' (ps ++ qs) → Grew w w' v v' → K (a.put o.dst v') w') : if Region.wanted o (yielded ops a.tmps) = true then Oper.wp Try.prog o a w K Q else E := by
  have hw : Region.wanted o (yielded ops a.tmps) = true := by simp [Region.wanted, hgd]
  rw [if_pos hw]
  exact wp_appQ ho hv hown hx hm hr hb h
/-- A literal row of pairs: it is the call's own. -/
theorem ownQ_new (w : World) (cs : Array Value) (ps : List Kv) (n : Nat) (h : cs.toList = qcs ps) (hn : ps.length = n) (hm : n ≤ maxLen) : OwnQ (w.alloc (.cells cs 26)) (.slice (some ⟨w.heap.size, 0, none⟩) n n) ps := by
  have hs : cs.size = n * 2 := by rw [← Array.length_toList, h, qcs_len, hn]
  have hl := qcs_len ps
  refine ⟨w.heap.size, by simp, by rw [hl], .inr ⟨w.heap.size, n, cs, by rw [hn], Nat.le_refl _, heap_alloc_new w _, by omega, hm, by omega, ?_⟩⟩
  rw [List.take_of_length_le (by rw [h, hl]; exact Nat.le_refl _), h]

/-! ## Slices of pairs -/

theorem sl_hiQ (A : Option Addr) (n c k : Nat) (hk : k ≤ c) (w : World) : (Instr.sliceAt 22 (.slice A n c) none (some (.int .i64 (k : Int))) none).run Try.prog w = .ok (.slice A k c) w := by
  rw [run_sliceAt_slice (P := Try.prog) (w := w) (t := 22) (h := by kernel_rfl), run_slice_h (P := Try.prog) (w := w) (ht := by kernel_rfl) (h0 := by omega) (h2 := by omega)]
  have he : (sizeOf (Try.prog.elem 22)).run Try.prog w = .ok 2 w := by kernel_rfl
  rw [he, Result.andThen_ok]
  cases A with
  | none => simp [sliced]
  | some ad =>
    have e : ad.add 0 = ad := by unfold Addr.add; split <;> simp_all
    simp [sliced, e]
theorem sl_loQ (A : Option Addr) (n c k : Nat) (hk : k ≤ n) (w : World) : (Instr.sliceAt 22 (.slice A n c) (some (.int .i64 (k : Int))) none none).run Try.prog w = .ok (.slice (if c = k then A else A.map (·.add (k * 2))) (n - k) (c - k)) w := by
  rw [run_sliceAt_slice (P := Try.prog) (w := w) (t := 22) (h := by kernel_rfl), run_slice_l (P := Try.prog) (w := w) (ht := by kernel_rfl) (h0 := by omega) (h1 := by omega)]
  have he : (sizeOf (Try.prog.elem 22)).run Try.prog w = .ok 2 w := by kernel_rfl
  rw [he, Result.andThen_ok]
  simp [sliced]
theorem idx_Q (ad : Addr) (n c k : Nat) (hk : k < n) (w : World) : (Instr.indexAt 22 (.slice (some ad) n c) (.int .i64 (k : Int))).run Try.prog w = .ok (.pointer (some (ad.add (k * 2)))) w := by
  rw [run_indexAt_slice (P := Try.prog) (h := by kernel_rfl), if_pos ⟨by omega, by omega⟩]
  rw [show (sizeOf (Try.prog.elem 22)).run Try.prog w = .ok 2 w from by kernel_rfl, Result.andThen_ok]
  simp

/-! ## Strings compared -/
theorem lss_str (a b : List UInt8) (t : TypeId) : binOp .lss t (.string ⟨a.toArray⟩) (.string ⟨b.toArray⟩) = pure (.bool (kl a b)) := by
  rw [binOp_string_lss, Lib.toList_data, Lib.toList_data]
theorem geq_str (a b : List UInt8) (t : TypeId) : binOp .geq t (.string ⟨a.toArray⟩) (.string ⟨b.toArray⟩) = pure (.bool (!kl a b)) := by
  rw [binOp_string_geq, Lib.toList_data, Lib.toList_data]
theorem eql_str (a b : List UInt8) (t : TypeId) : binOp .eql t (.string ⟨a.toArray⟩) (.string ⟨b.toArray⟩) = pure (.bool (a == b)) := by
  rw [binOp_string_eql, Lib.toList_data, Lib.toList_data]
theorem neq_str (a b : List UInt8) (t : TypeId) : binOp .neq t (.string ⟨a.toArray⟩) (.string ⟨b.toArray⟩) = pure (.bool (!(a == b))) := by
  rw [binOp_string_neq, Lib.toList_data, Lib.toList_data]
end Go.Proofs.Ytehbhjkceemmcaa
