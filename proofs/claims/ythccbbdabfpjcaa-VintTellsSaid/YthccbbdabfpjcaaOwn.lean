/- Rows of the call's own of ints and of texts, beside those of bytes. -/
import Derived.Test.YthccbbdabfpjcaaSteps
namespace Go.Proofs.Ythccbbdabfpjcaa
open Go.RowKit

/-- A row of the call's own, its cells as values, of element type e. -/
def OwnV (e : TypeId) (w : World) (v : Value) (xs : List Value) : Prop := ∃ base, base ≤ w.heap.size ∧ w.ownsRow base e 1 v xs.length xs

section
variable {e : TypeId} {w w' : World} {v : Value} {xs : List Value}
theorem OwnV.nil (w : World) : OwnV e w (.slice none 0 0) [] := ⟨0, Nat.zero_le _, World.ownsRow_nil _ _ _ _⟩
theorem OwnV.slice (h : OwnV e w v xs) : ∃ A c, v = .slice A xs.length c ∧ xs.length ≤ c ∧ c ≤ maxLen ∧ RdAt w A xs := by
  obtain ⟨base, hb, h⟩ := h
  obtain ⟨A, c, rfl, h1, h2⟩ := own_slice h
  exact ⟨A, c, rfl, h1, h2, RdAt.ofOwn h⟩
theorem OwnV.keep (h : OwnV e w v xs) {row : Option Nat} (hg : w.grownBy w' row) (hne : v.ownBlock = none ∨ v.ownBlock ≠ row) : OwnV e w' v xs := by
  obtain ⟨base, hb, h⟩ := h
  exact ⟨base, Nat.le_trans hb hg.size, h.kept hg hne⟩
theorem OwnV.kept (h : OwnV e w v xs) (hg : w.grownBy w' none) : OwnV e w' v xs := h.keep hg (by cases v.ownBlock <;> simp)
theorem OwnV.alloc (h : OwnV e w v xs) (o : Obj) : OwnV e (w.alloc o) v xs := h.kept (grown_alloc (grown_refl w none) o)
theorem OwnV.lt (h : OwnV e w v xs) : ∀ k, v.ownBlock = some k → k < w.heap.size := by
  obtain ⟨base, hb, h⟩ := h
  exact fun k hk => (h.lt k hk).2
/-- The block that a row lies in has its element type. -/
theorem OwnV.block (h : OwnV e w v xs) : ∀ k, v.ownBlock = some k → ∃ cs fr, w.heap[k]? = some (.cells cs e fr) := by
  obtain ⟨base, hb, h⟩ := h
  intro k hk
  rcases h.2 with ⟨rfl, _⟩ | ⟨g, cap, cur, rfl, _, hg, _⟩
  · simp [Value.ownBlock] at hk
  · simp [Value.ownBlock] at hk
    subst hk
    exact ⟨_, _, hg⟩
/-- Rows of unlike types lie apart. -/
theorem OwnV.apart {e' : TypeId} {v' : Value} {xs' : List Value} (h : OwnV e w v xs) (h' : OwnV e' w v' xs') (hne : e ≠ e') : v.ownBlock = none ∨ v.ownBlock ≠ v'.ownBlock := by
  cases hb : v.ownBlock with
  | none => exact .inl rfl
  | some k =>
    refine .inr fun e1 => ?_
    obtain ⟨cs, fr, h1⟩ := h.block k hb
    obtain ⟨cs', fr', h2⟩ := h'.block k e1.symm
    rw [h1] at h2
    injection h2 with h2
    injection h2 with _ h2
    exact hne h2
theorem ownV_new (w : World) (e : TypeId) (cs : Array Value) (xs : List Value) (n : Nat) (h : cs.toList = xs) (hn : xs.length = n) (hm : n ≤ maxLen) : OwnV e (w.alloc (.cells cs e)) (.slice (some ⟨w.heap.size, 0, none⟩) n n) xs := by
  have hs : cs.size = n := by rw [← Array.length_toList, h, hn]
  refine ⟨w.heap.size, by simp, by simp [hn], .inr ⟨w.heap.size, n, cs, by rw [hn], Nat.le_refl _, heap_alloc_new w _, by omega, hm, by omega, ?_⟩⟩
  rw [Nat.mul_one, List.take_of_length_le (by rw [h]; exact Nat.le_refl _), h]
end

theorem OwnB.toV {w : World} {v : Value} {l : List UInt8} (h : OwnB w v l) : OwnV 5 w v (l.map bv) := h
theorem Grew.keepNew {a b c : World} {u v : Value} (h : Grew a b u v) (k : a.grownBy c u.ownBlock) : Grew a c u v := ⟨k, h.2⟩

/-- 'append(v, x...)', v the call's own. -/
theorem wpList_appV (w : World) {ops : Array Oper} {rest : List Oper} {o : Oper} {a : Act} {Q : Exit → Act → World → Prop} (hgd : o.guard = none) (s x : Operand) (t : TypeId)
    (ho : o.op = .call { callee := .builtin .append, args := #[s, x], argTypes := #[t, t] }) {e : TypeId} {z : Value} {bytes : Nat} (ht : Try.prog.underlying t = some (.slice e))
    (hinfo : (Try.prog.info? e).map (fun i => (i.zero, i.size, i.bytes)) = some (some z, 1, bytes)) (hz : z.cells.size = 1)
    {v : Value} {l : List Value} (hv : a.eval s = v) (hown : OwnV e w v l) {A : Option Addr} {m c : Nat} {news : List Value} (hx : a.eval x = .slice A m c) (hm : m = news.length) (hr : RdAt w A news) (h1 : ∀ u ∈ news, u.oneCell' = true)
    (hb : (l.length + news.length) * bytes ≤ 140737488355328) (hl : l.length + news.length ≤ maxLen)
    (h : ∀ v' w', OwnV e w' v' (l ++ news) → Grew w w' v v' → wpList Try.prog ops Q rest (a.put o.dst v') w') : wpList Try.prog ops Q (o :: rest) a w := by
  obtain ⟨i, hi, hz', hs, hby⟩ := info_parts hinfo
  obtain ⟨base, hbase, hown⟩ := hown
  subst hm
  refine wpList_append_rd (P := Try.prog) w hgd s x t ho ht hi hz' hs hby hz hv hown (c := c) hx hr h1 hb hl hbase ?_
  intro v' w' h2 h3
  exact h v' w' ⟨base, Nat.le_trans hbase h3.1.size, h2⟩ h3

theorem step_appV {ops : Array Oper} {o : Oper} {a : Act} {w : World} {K : Act → World → Prop} {Q : Exit → Act → World → Prop} {E : Prop} (hgd : o.guard = none) (s x : Operand) (t : TypeId)
    (ho : o.op = .call { callee := .builtin .append, args := #[s, x], argTypes := #[t, t] }) {e : TypeId} {z : Value} {bytes : Nat} (ht : Try.prog.underlying t = some (.slice e))
    (hinfo : (Try.prog.info? e).map (fun i => (i.zero, i.size, i.bytes)) = some (some z, 1, bytes)) (hz : z.cells.size = 1)
    {v : Value} {l : List Value} (hv : a.eval s = v) (hown : OwnV e w v l) {A : Option Addr} {m c : Nat} {news : List Value} (hx : a.eval x = .slice A m c) (hm : m = news.length) (hr : RdAt w A news) (h1 : ∀ u ∈ news, u.oneCell' = true)
    (hb : (l.length + news.length) * bytes ≤ 140737488355328) (hl : l.length + news.length ≤ maxLen)
    (h : ∀ v' w', OwnV e w' v' (l ++ news) → Grew w w' v v' → K (a.put o.dst v') w') :
    if Region.wanted o (yielded ops a.tmps) = true then Oper.wp Try.prog o a w K Q else E := by
  have hw : Region.wanted o (yielded ops a.tmps) = true := by simp [Region.wanted, hgd]
  rw [if_pos hw]
  obtain ⟨i, hi, hz', hs, hby⟩ := info_parts hinfo
  obtain ⟨base, hbase, hown⟩ := hown
  subst hm
  obtain ⟨v', w', hrun, h2, h3⟩ := run_append_rd (P := Try.prog) w (ty := o.type) (c := c) ht hi hz' hs hby hz hown hr h1 hb hl hbase
  unfold Oper.wp execOp
  simp only [ho, resolve, invoke, builtin, Sem.run_bind, Sem.run_pure, Result.andThen_ok, List.map_toArray, List.map_cons, List.map_nil, hv, hx, hrun]
  exact h v' w' ⟨base, Nat.le_trans hbase h3.1.size, h2⟩ h3

theorem info_int : (Try.prog.info? 3).map (fun i => (i.zero, i.size, i.bytes)) = some (some (.int .i64 0), 1, 8) := by kernel_rfl
theorem info_str : (Try.prog.info? 9).map (fun i => (i.zero, i.size, i.bytes)) = some (some (.string ⟨#[]⟩), 1, 16) := by kernel_rfl
abbrev OwnI (w : World) (v : Value) (l : List Int) : Prop := OwnV 3 w v (l.map iv)
abbrev OwnS (w : World) (v : Value) (l : List (List UInt8)) : Prop := OwnV 9 w v (l.map sv)
theorem OwnI.slice {w : World} {v : Value} {l : List Int} (h : OwnI w v l) : ∃ A c, v = .slice A l.length c ∧ l.length ≤ c ∧ c ≤ maxLen ∧ RdI w A l := by
  obtain ⟨A, c, h1, h2, h3, h4⟩ := OwnV.slice h
  rw [List.length_map] at h1 h2
  exact ⟨A, c, h1, h2, h3, h4⟩
theorem OwnS.slice {w : World} {v : Value} {l : List (List UInt8)} (h : OwnS w v l) : ∃ A c, v = .slice A l.length c ∧ l.length ≤ c ∧ c ≤ maxLen ∧ RdS w A l := by
  obtain ⟨A, c, h1, h2, h3, h4⟩ := OwnV.slice h
  rw [List.length_map] at h1 h2
  exact ⟨A, c, h1, h2, h3, h4⟩

/-- The first m bytes of a text. -/
theorem extract_take (z : List UInt8) (m : Nat) : (⟨z.toArray⟩ : ByteArray).extract 0 m = ⟨(z.take m).toArray⟩ := by
  have h : ((⟨z.toArray⟩ : ByteArray).extract 0 m).data = (z.take m).toArray := by simp
  generalize (⟨z.toArray⟩ : ByteArray).extract 0 m = b at h ⊢
  cases b
  simp_all
theorem take_min {z : List UInt8} {k m : Nat} (h : (if (k : Int) < (z.length : Int) then (k : Int) else (z.length : Int)) = (m : Int)) : z.take k = z.take m := by
  by_cases h1 : (k : Int) < (z.length : Int)
  · rw [if_pos h1] at h
    have : k = m := by omega
    rw [this]
  · rw [if_neg h1] at h
    rw [List.take_of_length_le (by omega), List.take_of_length_le (by omega)]
/-- One text put. -/
theorem Text1_any (A : Option Addr) (c : Nat) (s : List UInt8) (w : World) (hr : RdS w A [s]) (hs : s.length ≤ 100000) :
    Calls Try.prog 14 #[.slice A 1 c] w fun e w' => ∃ v', e = .returned v' ∧ OwnB w' v' (textL s) ∧ Grew w w' (.slice none 0 0) v' := by
  refine (Text_any A c [s] w hr (by simp) (by simpa using hs)).mono ?_
  rintro e w' ⟨v', rfl, h1, h2⟩
  exact ⟨v', rfl, by simpa [textsL] using h1, h2⟩

/-- No hash put. -/
theorem Hash0_any (w : World) :
    Calls Try.prog 19 #[.slice none 0 0] w fun e w' => ∃ v', e = .returned v' ∧ OwnB w' v' [] ∧ Grew w w' (.slice none 0 0) v' :=
  Hash_any none 0 [] w (.inl rfl) (by simp) (by simp)
theorem putsL_cons (x : Int) (l : List Int) : putsL (x :: l) = putL x ++ putsL l := by simp [putsL]
theorem textsL_cons (x : List UInt8) (l : List (List UInt8)) : textsL (x :: l) = textL x ++ textsL l := by simp [textsL]
theorem drop_one {α : Type} {l : List α} {k : Nat} (h : k < l.length) : l.drop k = l[k] :: l.drop (k + 1) := List.drop_eq_getElem_cons h

theorem len_128 : (putL 128).length = 2 ∧ (putL 127).length = 1 := by simp [putL, putN]
theorem len_16384 : (putL 16384).length = 3 ∧ (putL 16383).length = 2 := by simp [putL, putN]
theorem len_2097152 : (putL 2097152).length = 4 ∧ (putL 2097151).length = 3 := by simp [putL, putN]
theorem len_268435456 : (putL 268435456).length = 5 ∧ (putL 268435455).length = 4 := by simp [putL, putN]
theorem len_34359738368 : (putL 34359738368).length = 6 ∧ (putL 34359738367).length = 5 := by simp [putL, putN]
theorem len_max : (putL 1099511627775).length = 6 := by simp [putL, putN]
end Go.Proofs.Ythccbbdabfpjcaa
