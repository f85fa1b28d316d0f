/- Rows of hashes of the call's own: made, appended to; the document's own key of public parts. A region that draws its order: operations in any order (calls, literals, variables made), and behind them a tail in a forced order (stores, appends, assignments). A seed's key; the document's own. A signature; the document's own. A region that draws its order: operations in any order (calls, literals, variables made and written), and behind them a tail in a forced order. Each operation's value may lie in several blocks. Signatures as values: what they hold, and where; variables of the call's own. -/
import Derived.Test.YtpeepiboocdnaaaDoorKE
import Derived.Deep.AppendLies
import Derived.Test.YtpeepiboocdnaaaDoorKC
import Derived.StillTail
import Derived.RegionTactic
namespace Go.Proofs.YtpeepiboocdnaaaDoor
open Go.RowKit

theorem lit_1h32 (b0 b1 b2 b3 b4 b5 b6 b7 b8 b9 b10 b11 b12 b13 b14 b15 b16 b17 b18 b19 b20 b21 b22 b23 b24 b25 b26 b27 b28 b29 b30 b31 : UInt8) (w : World) : (Instr.buildSlice 39 1 #[(0, .agg ([b0, b1, b2, b3, b4, b5, b6, b7, b8, b9, b10, b11, b12, b13, b14, b15, b16, b17, b18, b19, b20, b21, b22, b23, b24, b25, b26, b27, b28, b29, b30, b31].map bv).toArray)]).run Tryd.prog w = .ok (.slice (some ⟨w.heap.size, 0, none⟩) 1 1) (w.alloc (.cells ([b0, b1, b2, b3, b4, b5, b6, b7, b8, b9, b10, b11, b12, b13, b14, b15, b16, b17, b18, b19, b20, b21, b22, b23, b24, b25, b26, b27, b28, b29, b30, b31].map bv).toArray 44)) := by kernel_rfl
theorem lit_1h (x : List UInt8) (hx : x.length = 32) (w : World) : (Instr.buildSlice 39 1 #[(0, .agg (x.map bv).toArray)]).run Tryd.prog w = .ok (.slice (some ⟨w.heap.size, 0, none⟩) 1 1) (w.alloc (.cells (x.map bv).toArray 44)) :=
  match x, hx with
  | [b0, b1, b2, b3, b4, b5, b6, b7, b8, b9, b10, b11, b12, b13, b14, b15, b16, b17, b18, b19, b20, b21, b22, b23, b24, b25, b26, b27, b28, b29, b30, b31], _ => lit_1h32 b0 b1 b2 b3 b4 b5 b6 b7 b8 b9 b10 b11 b12 b13 b14 b15 b16 b17 b18 b19 b20 b21 b22 b23 b24 b25 b26 b27 b28 b29 b30 b31 w
theorem lit_2h32 (b0 b1 b2 b3 b4 b5 b6 b7 b8 b9 b10 b11 b12 b13 b14 b15 b16 b17 b18 b19 b20 b21 b22 b23 b24 b25 b26 b27 b28 b29 b30 b31 c0 c1 c2 c3 c4 c5 c6 c7 c8 c9 c10 c11 c12 c13 c14 c15 c16 c17 c18 c19 c20 c21 c22 c23 c24 c25 c26 c27 c28 c29 c30 c31 : UInt8) (w : World) : (Instr.buildSlice 39 2 #[(0, .agg ([b0, b1, b2, b3, b4, b5, b6, b7, b8, b9, b10, b11, b12, b13, b14, b15, b16, b17, b18, b19, b20, b21, b22, b23, b24, b25, b26, b27, b28, b29, b30, b31].map bv).toArray), (1, .agg ([c0, c1, c2, c3, c4, c5, c6, c7, c8, c9, c10, c11, c12, c13, c14, c15, c16, c17, c18, c19, c20, c21, c22, c23, c24, c25, c26, c27, c28, c29, c30, c31].map bv).toArray)]).run Tryd.prog w = .ok (.slice (some ⟨w.heap.size, 0, none⟩) 2 2) (w.alloc (.cells (([b0, b1, b2, b3, b4, b5, b6, b7, b8, b9, b10, b11, b12, b13, b14, b15, b16, b17, b18, b19, b20, b21, b22, b23, b24, b25, b26, b27, b28, b29, b30, b31] ++ [c0, c1, c2, c3, c4, c5, c6, c7, c8, c9, c10, c11, c12, c13, c14, c15, c16, c17, c18, c19, c20, c21, c22, c23, c24, c25, c26, c27, c28, c29, c30, c31]).map bv).toArray 44)) := by kernel_rfl
theorem lit_2h (x y : List UInt8) (hx : x.length = 32) (hy : y.length = 32) (w : World) : (Instr.buildSlice 39 2 #[(0, .agg (x.map bv).toArray), (1, .agg (y.map bv).toArray)]).run Tryd.prog w = .ok (.slice (some ⟨w.heap.size, 0, none⟩) 2 2) (w.alloc (.cells ((x ++ y).map bv).toArray 44)) :=
  match x, hx, y, hy with
  | [b0, b1, b2, b3, b4, b5, b6, b7, b8, b9, b10, b11, b12, b13, b14, b15, b16, b17, b18, b19, b20, b21, b22, b23, b24, b25, b26, b27, b28, b29, b30, b31], _, [c0, c1, c2, c3, c4, c5, c6, c7, c8, c9, c10, c11, c12, c13, c14, c15, c16, c17, c18, c19, c20, c21, c22, c23, c24, c25, c26, c27, c28, c29, c30, c31], _ => lit_2h32 b0 b1 b2 b3 b4 b5 b6 b7 b8 b9 b10 b11 b12 b13 b14 b15 b16 b17 b18 b19 b20 b21 b22 b23 b24 b25 b26 b27 b28 b29 b30 b31 c0 c1 c2 c3 c4 c5 c6 c7 c8 c9 c10 c11 c12 c13 c14 c15 c16 c17 c18 c19 c20 c21 c22 c23 c24 c25 c26 c27 c28 c29 c30 c31 w

/-- A row of n hashes of the call's own. -/
def OwnHs (w : World) (v : Value) (l : List UInt8) (n : Nat) : Prop := ∃ base, base ≤ w.heap.size ∧ w.ownsRow base 44 32 v n (l.map bv)
section
variable {w w' : World} {v : Value} {l : List UInt8} {n : Nat}
theorem OwnHs.nil (w : World) : OwnHs w (.slice none 0 0) [] 0 := ⟨0, Nat.zero_le _, by simp, .inl ⟨rfl, rfl⟩⟩
theorem OwnHs.len (h : OwnHs w v l n) : l.length = n * 32 := by
  obtain ⟨_, _, h, _⟩ := h
  rwa [List.length_map] at h
theorem OwnHs.keep (h : OwnHs w v l n) {row : Option Nat} (hg : w.grownBy w' row) (hne : v.ownBlock = none ∨ v.ownBlock ≠ row) : OwnHs w' v l n := by
  obtain ⟨base, hb, h⟩ := h
  exact ⟨base, Nat.le_trans hb hg.size, h.kept hg hne⟩
theorem OwnHs.kept (h : OwnHs w v l n) (hg : w.grownBy w' none) : OwnHs w' v l n := h.keep hg (by cases v.ownBlock <;> simp)
theorem OwnHs.lt (h : OwnHs w v l n) : ∀ k, v.ownBlock = some k → k < w.heap.size := by
  obtain ⟨base, hb, _, h⟩ := h
  rcases h with ⟨rfl, _⟩ | ⟨g, cap, cur, rfl, _, hg, _⟩
  · intro k e; cases e
  · intro k e
    simp only [Value.ownBlock, Option.some.injEq] at e
    subst e
    exact lt_of_heap hg
/-- At least one: where it lies. -/
theorem OwnHs.slice (h : OwnHs w v l n) (hn : 0 < n) : ∃ g c, v = .slice (some ⟨g, 0, none⟩) n c ∧ n ≤ c ∧ c ≤ maxLen ∧ RdB w (some ⟨g, 0, none⟩) l := by
  obtain ⟨base, hb, hl, h⟩ := h
  rcases h with ⟨_, h0⟩ | ⟨g, cap, cur, rfl, h1, hg, h2, h3, h4, h5⟩
  · omega
  · exact ⟨g, cap, rfl, h2, h3, RdAt.ofOwn (base := base) (size := 32) ⟨hl, .inr ⟨g, cap, cur, rfl, h1, hg, h2, h3, h4, h5⟩⟩⟩
end
theorem wp_appH {o : Oper} {a : Act} {w : World} {K : Act → World → Prop} {Q : Exit → Act → World → Prop} {s x : Operand}
    (ho : o.op = .call { callee := .builtin .append, args := #[s, x], argTypes := #[39, 39] })
    {v : Value} {l : List UInt8} {n : Nat} (hv : a.eval s = v) (hown : OwnHs w v l n) {ad : Addr} {m c : Nat} {news : List UInt8} (hx : a.eval x = .slice (some ad) m c) (hr : RdB w (some ad) news) (hl : news.length = m * 32) (hm : 0 < m) (hb : n + m ≤ 1000000)
    (h : ∀ v' w', OwnHs w' v' (l ++ news) (n + m) → Grew w w' v v' → K (a.put o.dst v') w') : Oper.wp Tryd.prog o a w K Q := by
  obtain ⟨i, hi, hz, hs, hby⟩ := info_parts info_hashrow
  obtain ⟨base, hbase, hown⟩ := hown
  refine wp_append_lies w s x 39 ho base 44 i _ 32 32 Tryd.underlying39 hi hz hs hby (by simp [Value.cells]) (by omega) v n (l.map bv) hv hown ad m c (news.map bv) hx (by rw [List.length_map, hl]) ?_ (bv_one _) hm (by unfold maxLen; omega) (by omega) hbase _ rfl ?_
  · rcases hr with e | ⟨ad', e, hc⟩
    · have := congrArg List.length e
      rw [List.length_map, hl] at this
      simp at this; omega
    · injection e with e
      subst e
      exact hc
  · intro g cap w' h1 h2 h3 _
    refine h _ w' ⟨base, Nat.le_trans hbase h2.size, by rw [List.map_append]; exact h1⟩ ⟨h2, ?_⟩
    rcases h3 with h3 | h3
    · exact .inl h3.symm
    · exact .inr ⟨g, rfl, by omega⟩
theorem step_appH {ops : Array Oper} {o : Oper} {a : Act} {w : World} {K : Act → World → Prop} {Q : Exit → Act → World → Prop} {E : Prop} (hgd : o.guard = none) (s x : Operand)
    (ho : o.op = .call { callee := .builtin .append, args := #[s, x], argTypes := #[39, 39] })
    {v : Value} {l : List UInt8} {n : Nat} (hv : a.eval s = v) (hown : OwnHs w v l n) {ad : Addr} {m c : Nat} {news : List UInt8} (hx : a.eval x = .slice (some ad) m c) (hr : RdB w (some ad) news) (hl : news.length = m * 32) (hm : 0 < m) (hb : n + m ≤ 1000000)
    (h : ∀ v' w', OwnHs w' v' (l ++ news) (n + m) → Grew w w' v v' → K (a.put o.dst v') w') : if Region.wanted o (yielded ops a.tmps) = true then Oper.wp Tryd.prog o a w K Q else E := by
  have hw : Region.wanted o (yielded ops a.tmps) = true := by simp [Region.wanted, hgd]
  rw [if_pos hw]
  exact wp_appH ho hv hown hx hr hl hm hb h
theorem wpList_appH {ops : Array Oper} {rest : List Oper} {o : Oper} {a : Act} {w : World} {Q : Exit → Act → World → Prop} (hgd : o.guard = none) (s x : Operand)
    (ho : o.op = .call { callee := .builtin .append, args := #[s, x], argTypes := #[39, 39] })
    {v : Value} {l : List UInt8} {n : Nat} (hv : a.eval s = v) (hown : OwnHs w v l n) {ad : Addr} {m c : Nat} {news : List UInt8} (hx : a.eval x = .slice (some ad) m c) (hr : RdB w (some ad) news) (hl : news.length = m * 32) (hm : 0 < m) (hb : n + m ≤ 1000000)
    (h : ∀ v' w', OwnHs w' v' (l ++ news) (n + m) → Grew w w' v v' → wpList Tryd.prog ops Q rest (a.put o.dst v') w') : wpList Tryd.prog ops Q (o :: rest) a w :=
  wpList_plain hgd fun _ hK => wp_appH ho hv hown hx hr hl hm hb fun v' w' h1 h2 => hK _ _ (h v' w' h1 h2)

/-- A hash of a row, as its load wants it. -/
theorem hash_at {w : World} {A : Option Addr} {L : List UInt8} (h : RdB w A L) {k n : Nat} (hl : L.length = n * 32) (hk : k < n) : ∃ ad, A = some ad ∧ ∀ j u, (((L.drop (k * 32)).take 32).map bv)[j]? = some u → w.cell? ((ad.add (k * 32)).add j) = some u := by
  rcases h with e | ⟨ad, rfl, hc⟩
  · have := congrArg List.length e
    rw [List.length_map, hl] at this
    simp at this; omega
  · refine ⟨ad, rfl, fun j u hu => ?_⟩
    have hj : j < 32 := by
      have := (List.getElem?_eq_some_iff.1 hu).1
      rw [List.length_map, List.length_take] at this; omega
    rw [add_add]
    refine hc (k * 32 + j) u ?_
    rw [← hu, List.getElem?_map, List.getElem?_map, List.getElem?_take_of_lt hj, List.getElem?_drop]

end Go.Proofs.YtpeepiboocdnaaaDoor

namespace Go.Proofs.YtpeepiboocdnaaaDoor
open Go.RowKit

/-- The block that operation k's value lies in: a variable's, if it makes one; else a slice's. -/
def ptrBlock : Value → Option Nat
  | .pointer (some a) => some a.block
  | _ => none
def bk (al : Nat → Bool) (k : Nat) (v : Value) : Option Nat := bif al k then ptrBlock v else v.ownBlock
theorem nob {x : Option Nat} {p : Nat → Prop} (h : x = none) : ∀ g, x = some g → p g := fun g e => by rw [h] at e; cases e
/-- A fact on operation k's value lasts; q: in this region no row is written while the head is walked. -/
def LastsK (al : Nat → Bool) (q : Bool) (k : Nat) (F : Value → World → Prop) : Prop := ∀ v w w' row, F v w → w.grownBy w' row → (q = true → row = none) → (bk al k v = none ∨ bk al k v ≠ row) → F v w'
theorem LastsK.of {al : Nat → Bool} {q : Bool} {k : Nat} {F : Value → World → Prop} (ha : al k = false) (h : Lasts F) : LastsK al q k F := fun v w w' row hf hg _ hne => h v w w' row hf hg (by simpa [bk, ha] using hne)
theorem LastsK.calm {al : Nat → Bool} {k : Nat} {F : Value → World → Prop} (h : ∀ v w w', F v w → w.grownBy w' none → F v w') : LastsK al true k F := fun v w w' row hf hg hq _ => by
  have := hq rfl
  subst this
  exact h v w w' hf hg
theorem LastsK.val {al : Nat → Bool} {q : Bool} {k : Nat} (c : Value) : LastsK al q k fun v _ => v = c := fun _ _ _ _ h _ _ _ => h
/-- A variable made: its block. -/
def Made (Z : Array Value) (t : TypeId) (v : Value) (w : World) : Prop := ∃ b, v = .pointer (some ⟨b, 0, none⟩) ∧ w.heap[b]? = some (.cells Z t (0, 0))
theorem LastsK.made {al : Nat → Bool} {q : Bool} {k : Nat} (ha : al k = true) (Z : Array Value) (t : TypeId) : LastsK al q k (Made Z t) := by
  rintro v w w' row ⟨b, rfl, h⟩ hg _ hne
  refine ⟨b, rfl, other_block h hg ?_⟩
  rcases hne with h1 | h1
  · simp [bk, ha, ptrBlock] at h1
  · simpa [bk, ha, ptrBlock] using h1

section
variable (R : Option Nat) (i1 : Nat) (al : Nat → Bool) (q : Bool) (ops : Array Oper) (die : Nat → Nat) (own : Nat → Bool) (F : Nat → Value → World → Prop) (a0 : Act) (W : World)

/-- What stands at every moment of the head: L says which operations have been done. -/
structure RepT (L : Array Bool) (a : Act) (w : World) : Prop where
  size : L.size = ops.size
  defers : a.defers = a0.defers
  tmps : a.tmps.size = a0.tmps.size
  frame : ∀ t, (∀ k, k < ops.size → slotOf ops k ≠ t) → a.tmps.getD t undef = a0.tmps.getD t undef
  old : W.grownBy w R
  oldN : L.getD i1 false = false → W.grownBy w none
  item : ∀ k, k < ops.size → liveAt die L k → F k (valOf ops a k) w ∧ (∀ g, bk al k (valOf ops a k) = some g → g < w.heap.size) ∧ (own k = true → ∀ g, bk al k (valOf ops a k) = some g → W.heap.size ≤ g ∨ some g = R)
  virgin : L.getD i1 false = false → ∀ k, k < ops.size → liveAt die L k → bk al k (valOf ops a k) = none ∨ bk al k (valOf ops a k) ≠ R
  apart : ∀ k j, k < ops.size → j < ops.size → k ≠ j → liveAt die L k → liveAt die L j → own k = true → bk al j (valOf ops a j) = none ∨ bk al j (valOf ops a j) ≠ bk al k (valOf ops a k)

variable {R i1 al q ops die own F a0 W}
theorem rept_step (hR : ∀ g, R = some g → g < W.heap.size) (hF : ∀ k, LastsK al q k (F k)) {L : Array Bool} {a : Act} {w : World} (h : RepT R i1 al ops die own F a0 W L a w) {i : Nat} (hi : i < ops.size) (hLf : L.getD i false = false) {o : Oper} (ho : ops[i]? = some o) {d : Nat} (hd : o.dst = some d)
    (hinj : ∀ k, k < ops.size → k ≠ i → slotOf ops k ≠ d) (hdn : d < a0.tmps.size) {v : Value} {w' : World} {row : Option Nat} (hg : w.grownBy w' row)
    (hrow : row = none ∨ ∃ k, k < ops.size ∧ liveAt die L k ∧ own k = true ∧ die k = i ∧ row = (bk al k (valOf ops a k)))
    (hq0 : q = true → row = none) (hv : F i v w') (hlt : ∀ g, (bk al i v) = some g → g < w'.heap.size)
    (hnew : (bk al i v) = none ∨ (∃ g, (bk al i v) = some g ∧ w.heap.size ≤ g) ∨ (bk al i v) = row ∨ (own i = false ∧ ∃ g, (bk al i v) = some g ∧ g < W.heap.size ∧ some g ≠ R) ∨ (i = i1 ∧ (bk al i v) = R)) :
    RepT R i1 al ops die own F a0 W (L.setIfInBounds i true) (a.put o.dst v) w' := by
  have hsi : slotOf ops i = d := by simp [slotOf, ho, hd]
  rw [hd]
  have hLi : i < L.size := by rw [h.size]; exact hi
  have hval : ∀ k, k < ops.size → k ≠ i → valOf ops (a.put (some d) v) k = valOf ops a k := fun k hk hki => tmps_put_other (hinj k hk hki)
  have hvi : valOf ops (a.put (some d) v) i = v := by
    unfold valOf; rw [hsi]; exact tmps_put_same (by rw [h.tmps]; exact hdn)
  have hlive : ∀ k, k ≠ i → liveAt die (L.setIfInBounds i true) k → liveAt die L k ∧ die k ≠ i := by
    intro k hki hl
    have h1 : die k ≠ i := by
      intro e
      have := hl.2
      rw [e, getD_set_same hLi] at this
      cases this
    exact ⟨⟨by have := hl.1; rwa [getD_set_other hki] at this, by have := hl.2; rwa [getD_set_other h1] at this⟩, h1⟩
  have hfar : ∀ k, k < ops.size → liveAt die L k → die k ≠ i → (bk al k (valOf ops a k)) = none ∨ (bk al k (valOf ops a k)) ≠ row := by
    intro k hk hl hdk
    rcases hrow with rfl | ⟨k0, hk0, hl0, ho0, hd0, rfl⟩
    · cases (bk al k (valOf ops a k)) <;> simp
    · exact h.apart k0 k hk0 hk (fun e => hdk (by rw [← e]; exact hd0)) hl0 hl ho0
  have hold : W.grownBy w' R := by
    refine grown_trans h.old hg ?_
    rcases hrow with rfl | ⟨k0, hk0, hl0, ho0, hd0, rfl⟩
    · exact .inr fun g e => by cases e
    · by_cases e : bk al k0 (valOf ops a k0) = R
      · exact .inl e
      · refine .inr fun g eg => ?_
        rcases (h.item k0 hk0 hl0).2.2 ho0 g eg with h1 | h1
        · exact h1
        · exact absurd (eg.trans h1) e
  have hvW : own i = true → ∀ g, (bk al i v) = some g → W.heap.size ≤ g ∨ some g = R := by
    intro hoi g e
    rcases hnew with e1 | ⟨g', e1, hg'⟩ | e1 | ⟨e1, _⟩ | ⟨_, e1⟩
    · rw [e1] at e; cases e
    · rw [e1] at e; injection e with e; have := h.old.size; exact .inl (by omega)
    · rcases hrow with rfl | ⟨k0, hk0, hl0, ho0, hd0, rfl⟩
      · rw [e1] at e; cases e
      · exact (h.item k0 hk0 hl0).2.2 ho0 g (by rw [← e1]; exact e)
    · rw [e1] at hoi; cases hoi
    · exact .inr (by rw [← e1, e])
  refine ⟨by rw [Array.size_setIfInBounds]; exact h.size, h.defers, by simp [Act.put, h.tmps], fun t ht => ?_, hold, fun hun => ?_, fun k hk hl => ?_, fun hun k hk hl => ?_, fun k j hk hj hkj hlk hlj hok => ?_⟩
  · rw [tmps_put_other (fun e => ht i hi (by rw [hsi, e]))]
    exact h.frame t ht
  · have hi1 : i1 ≠ i := by
      intro e
      rw [e, getD_set_same hLi] at hun
      cases hun
    have hun' : L.getD i1 false = false := by rwa [getD_set_other hi1] at hun
    refine grown_trans (h.oldN hun') hg ?_
    rcases hrow with rfl | ⟨k0, hk0, hl0, ho0, hd0, rfl⟩
    · exact .inl rfl
    · refine .inr fun g eg => ?_
      rcases (h.item k0 hk0 hl0).2.2 ho0 g eg with h1 | h1
      · exact h1
      · rcases h.virgin hun' k0 hk0 hl0 with h2 | h2
        · rw [h2] at eg; cases eg
        · exact absurd (eg.trans h1) h2
  · by_cases hki : k = i
    · subst hki
      rw [hvi]
      exact ⟨hv, hlt, hvW⟩
    · obtain ⟨hl', hdk⟩ := hlive k hki hl
      rw [hval k hk hki]
      obtain ⟨h1, h2, h3⟩ := h.item k hk hl'
      exact ⟨hF k _ _ _ _ h1 hg hq0 (hfar k hk hl' hdk), fun g e => Nat.lt_of_lt_of_le (h2 g e) hg.size, h3⟩
  · have hi1 : i1 ≠ i := by
      intro e
      rw [e, getD_set_same hLi] at hun
      cases hun
    have hun' : L.getD i1 false = false := by rwa [getD_set_other hi1] at hun
    by_cases hki : k = i
    · subst hki
      rw [hvi]
      rcases hnew with e1 | ⟨g', e1, hg'⟩ | e1 | ⟨_, g', e1, hg', hne⟩ | ⟨e1, _⟩
      · exact .inl e1
      · refine .inr fun e => ?_
        have h1 := hR g' (by rw [← e, e1])
        have := h.old.size
        omega
      · rcases hrow with rfl | ⟨k0, hk0, hl0, ho0, hd0, rfl⟩
        · exact .inl e1
        · rw [e1]; exact h.virgin hun' k0 hk0 hl0
      · exact .inr fun e => hne (by rw [← e1, e])
      · exact absurd e1.symm hi1
    · obtain ⟨hl', _⟩ := hlive k hki hl
      rw [hval k hk hki]
      exact h.virgin hun' k hk hl'
  · by_cases hki : k = i
    · subst hki
      have hji : j ≠ k := Ne.symm hkj
      obtain ⟨hlj', hdj⟩ := hlive j hji hlj
      rw [hvi, hval j hj hji]
      rcases hnew with e1 | ⟨g', e1, hg'⟩ | e1 | ⟨e1, _⟩ | ⟨e0, e1⟩
      · rw [e1]; cases (bk al j (valOf ops a j)) <;> simp
      · rw [e1]
        cases hb : (bk al j (valOf ops a j)) with
        | none => exact .inl rfl
        | some b => exact .inr fun e => by injection e with e; have := (h.item j hj hlj').2.1 b hb; omega
      · rw [e1]; exact hfar j hj hlj' hdj
      · rw [e1] at hok; cases hok
      · rw [e1]; exact h.virgin (by rw [← e0]; exact hLf) j hj hlj'
    · obtain ⟨hlk', hdk⟩ := hlive k hki hlk
      rw [hval k hk hki]
      by_cases hji : j = i
      · subst hji
        rw [hvi]
        rcases hnew with e1 | ⟨g', e1, hg'⟩ | e1 | ⟨_, g', e1, hg', hgR⟩ | ⟨e0, e1⟩
        · exact .inl e1
        · refine .inr fun e => ?_
          rw [e1] at e
          have := (h.item k hk hlk').2.1 g' e.symm
          omega
        · rcases hfar k hk hlk' hdk with h1 | h1
          · cases hb : (bk al j v) with
            | none => exact .inl rfl
            | some b => exact .inr fun e => by rw [h1] at e; cases e
          · exact .inr fun e => h1 (by rw [← e, e1])
        · refine .inr fun e => ?_
          rw [e1] at e
          rcases (h.item k hk hlk').2.2 hok g' e.symm with h1 | h1
          · omega
          · exact hgR h1
        · rcases h.virgin (by rw [← e0]; exact hLf) k hk hlk' with h1 | h1
          · cases hb : (bk al j v) with
            | none => exact .inl rfl
            | some b => exact .inr fun e => by rw [h1] at e; cases e
          · exact .inr fun e => h1 (by rw [← e, e1])
      · obtain ⟨hlj', hdj⟩ := hlive j hji hlj
        rw [hval j hj hji]
        exact h.apart k j hk hj hkj hlk' hlj' hok

/-- What the kernel can see of a region's text: edges go back; every operation has a slot of its own, below N, all of them in S. -/
def regionOkT (ops : Array Oper) (N : Nat) (S : Nat → Bool) : Bool :=
  (List.range ops.size).all fun k => ((ops[k]?).map fun o => (o.after.all fun e => !(Region.binds .any e) || decide (e.on < k)) && o.dst.isSome).getD false && decide (slotOf ops k < N) && S (slotOf ops k) && (List.range ops.size).all fun j => k == j || slotOf ops k != slotOf ops j
theorem regionOkT_back {ops : Array Oper} {N : Nat} {S : Nat → Bool} (h : regionOkT ops N S = true) : ∀ (k : Nat) (o : Oper), ops[k]? = some o → ∀ e ∈ o.after, Region.binds .any e = true → e.on < k := by
  intro k o ho e he hbe
  have hk : k < ops.size := (Array.getElem?_eq_some_iff.1 ho).1
  simp only [regionOkT, List.all_eq_true, List.mem_range] at h
  have h1 := h k hk
  simp only [ho, Option.map_some, Option.getD_some, Bool.and_eq_true, Array.all_eq_true_iff_forall_mem, decide_eq_true_eq] at h1
  have := h1.1.1.1.1 e he
  simpa [hbe] using this
theorem regionOkT_slot {ops : Array Oper} {N : Nat} {S : Nat → Bool} (h : regionOkT ops N S = true) {k : Nat} (hk : k < ops.size) : slotOf ops k < N ∧ S (slotOf ops k) = true ∧ (∀ j, j < ops.size → j ≠ k → slotOf ops j ≠ slotOf ops k) ∧ ∀ o, ops[k]? = some o → o.dst = some (slotOf ops k) := by
  simp only [regionOkT, List.all_eq_true, List.mem_range] at h
  have h1 := h k hk
  simp only [Bool.and_eq_true, decide_eq_true_eq] at h1
  refine ⟨h1.1.1.2, h1.1.2, fun j hj hjk e => ?_, fun o ho => ?_⟩
  · have := h1.2
    simp only [List.all_eq_true, List.mem_range] at this
    have h2 := this j hj
    simp only [Bool.or_eq_true, beq_iff_eq, bne_iff_ne] at h2
    rcases h2 with h2 | h2
    · exact hjk h2.symm
    · exact h2 e.symm
  · have h2 := h1.1.1.1
    simp only [ho, Option.map_some, Option.getD_some, Bool.and_eq_true] at h2
    cases hd : o.dst with
    | none => rw [hd] at h2; simp at h2
    | some d => simp [slotOf, ho, hd]

/-- One step, the region's text seen by the kernel. -/
theorem rept_go {N : Nat} {S : Nat → Bool} (hok : regionOkT ops N S = true) (hN : N ≤ a0.tmps.size) (hR : ∀ g, R = some g → g < W.heap.size) (hF : ∀ k, LastsK al q k (F k)) {L : Array Bool} {a : Act} {w : World} (h : RepT R i1 al ops die own F a0 W L a w) {i : Nat} (hi : i < ops.size) (hLf : L.getD i false = false) {o : Oper} (ho : ops[i]? = some o)
    {v : Value} {w' : World} {row : Option Nat} (hg : w.grownBy w' row)
    (hrow : row = none ∨ ∃ k, k < ops.size ∧ liveAt die L k ∧ own k = true ∧ die k = i ∧ row = (bk al k (valOf ops a k)))
    (hq0 : q = true → row = none) (hv : F i v w') (hlt : ∀ g, (bk al i v) = some g → g < w'.heap.size)
    (hnew : (bk al i v) = none ∨ (∃ g, (bk al i v) = some g ∧ w.heap.size ≤ g) ∨ (bk al i v) = row ∨ (own i = false ∧ ∃ g, (bk al i v) = some g ∧ g < W.heap.size ∧ some g ≠ R) ∨ (i = i1 ∧ (bk al i v) = R)) :
    RepT R i1 al ops die own F a0 W (L.setIfInBounds i true) (a.put o.dst v) w' := by
  obtain ⟨h1, _, h3, h4⟩ := regionOkT_slot hok hi
  exact rept_step hR hF h hi hLf ho (h4 o ho) h3 (Nat.lt_of_lt_of_le h1 hN) hg hrow hq0 hv hlt hnew

theorem rept_frame {N : Nat} {S : Nat → Bool} (hok : regionOkT ops N S = true) {L : Array Bool} {a : Act} {w : World} (h : RepT R i1 al ops die own F a0 W L a w) :
    a = { tmps := (fill S (fun t => a.tmps.getD t undef) 0 a0.tmps.toList).toArray, defers := a0.defers } :=
  frame_fill S h.defers h.tmps fun t ht => h.frame t fun k hk e => by
    have := (regionOkT_slot hok hk).2.1
    rw [e, ht] at this
    cases this
theorem rept_start : RepT R i1 al ops die own F a0 W (Array.replicate ops.size false) a0 { W with drawn := W.drawn + 1 } := by
  have hno : ∀ k, ¬ liveAt die (Array.replicate ops.size false) k := fun k hk => by
    have := hk.1
    simp only [Array.getD, Array.size_replicate] at this
    split at this
    · simp at this
    · cases this
  exact ⟨by simp, rfl, rfl, fun _ _ => rfl, grown_drew (grown_refl _ _), fun _ => grown_drew (grown_refl _ _), fun k _ hl => absurd hl (hno k), fun _ k _ hl => absurd hl (hno k), fun k j _ _ _ hl => absurd hl (hno k)⟩


variable {P : Program}
theorem padded_lo {L : Array Bool} {n m k : Nat} (hs : L.size = n) (hk : k < n) (d : Bool) : (L ++ Array.replicate m false).getD k d = L.getD k d := by
  simp only [Array.getD_eq_getD_getElem?]
  rw [Array.getElem?_append_left (by omega)]
theorem padded_hi {L : Array Bool} {n m k : Nat} (hs : L.size = n) (hk : n ≤ k) (hm : k < n + m) (d : Bool) : (L ++ Array.replicate m false).getD k d = false := by
  simp only [Array.getD_eq_getD_getElem?]
  rw [Array.getElem?_append_right (by omega), Array.getElem?_replicate, if_pos (by omega)]
  rfl
theorem padded_set {L : Array Bool} {n m i : Nat} (hs : L.size = n) (hi : i < n) : (L ++ Array.replicate m false).setIfInBounds i true = L.setIfInBounds i true ++ Array.replicate m false := by
  apply Array.ext'
  rw [Array.toList_setIfInBounds, Array.toList_append, Array.toList_append, Array.toList_setIfInBounds, List.set_append_left _ _ (by simpa [hs] using hi)]

/-- The region: its head walked once an operation, its tail in order. -/
theorem wp_region_tail {l : List Oper} (n : Nat) {id : Nat} {Q : Exit → Act → World → Prop} (hm : P.follows .mixedOrders = true) (hn : n < l.length)
    (hs : Region.sinkB .any l.toArray n = true) (hc : Region.chainB .any l.toArray n = true) (hq : Region.seqB .any l.toArray (l.length - n) n (Array.replicate n true ++ Array.replicate (l.length - n) false) = true)
    (hb : ∀ (k : Nat) (o : Oper), (l.take n).toArray[k]? = some o → ∀ e ∈ o.after, Region.binds .any e = true → e.on < k)
    (hstep : ∀ (i : Nat) (o : Oper) (L : Array Bool) (a : Act) (w : World) (K : Act → World → Prop), i < n → (l.take n).toArray[i]? = some o → RepT R i1 al (l.take n).toArray die own F a0 W L a w → L.getD i false = false →
      (∀ e ∈ o.after, Region.binds .any e = true → L.getD e.on false = true) → (∀ a' w', RepT R i1 al (l.take n).toArray die own F a0 W (L.setIfInBounds i true) a' w' → K a' w') →
      Region.wanted o (yielded l.toArray a.tmps) = true ∧ Oper.wp P o a w K Q)
    (hend : ∀ (L : Array Bool) (a : Act) (w : World), (∀ k, k < n → L.getD k false = true) → RepT R i1 al (l.take n).toArray die own F a0 W L a w → wpList P l.toArray Q (l.drop n) a w) :
    (Code.region id l.toArray true).wp P Q a0 W := by
  refine wp_region_any hm ?_
  obtain ⟨m, hm'⟩ : ∃ m, m = l.length - n := ⟨_, rfl⟩
  have hsz : (l.take n).toArray.size = n := by simp; omega
  have hget : ∀ k, k < n → l.toArray[k]? = (l.take n).toArray[k]? := fun k hk => by
    rw [List.getElem?_toArray, List.getElem?_toArray, List.getElem?_take_of_lt hk]
  have main : ∀ (c : Nat) (L : Array Bool) (a : Act) (w : World), L.toList.count false = c → RepT R i1 al (l.take n).toArray die own F a0 W L a w →
      (∀ j o, (l.take n).toArray[j]? = some o → L.getD j false = true → ∀ e ∈ o.after, Region.binds .any e = true → L.getD e.on false = true) → wpAny P .any l.toArray Q (c + m) (L ++ Array.replicate m false) a w := by
    intro c
    induction c with
    | zero =>
      intro L a w hcn hrep _
      have hLs : L.size = n := by rw [hrep.size, hsz]
      have hall : ∀ k, k < n → L.getD k false = true := by
        intro k hk
        have hk' : k < L.size := by omega
        rw [List.count_eq_zero] at hcn
        cases hb : L.getD k false with
        | true => rfl
        | false =>
          exfalso
          apply hcn
          have : L[k] = false := by simpa [Array.getD, hk'] using hb
          rw [← this]
          exact Array.getElem_mem_toList hk'
      have hL : L = Array.replicate n true := by
        apply Array.ext (by simpa using hLs)
        intro i h1 h2
        have := hall i (by omega)
        simp only [Array.getD, h1, dif_pos] at this
        simpa using this
      have hw := wpAny_of_seq (P := P) (md := .any) (ops := l.toArray) (Q' := Q) (l.drop n) n (L ++ Array.replicate m false) a w (fun j => by simp [List.getElem?_drop]) (by rw [List.length_drop, hL, hm']; exact hq) (hend L a w hall hrep)
      rw [List.length_drop, ← hm'] at hw
      simpa using hw
    | succ c ih =>
      intro L a w hcn hrep hcl
      have hLs : L.size = n := by rw [hrep.size, hsz]
      have hNs : n + m = l.length := by omega
      -- one is not listed yet
      obtain ⟨k0, hk0, hk0f⟩ : ∃ k, k < n ∧ L.getD k false = false := by
        have : 0 < L.toList.count false := by omega
        rw [List.count_pos_iff] at this
        obtain ⟨k, hk, e⟩ := List.getElem_of_mem this
        have hk' : k < L.size := by simpa using hk
        exact ⟨k, by omega, by simpa [Array.getD, hk'] using e⟩
      have inv : HeadInv .any l.toArray n (L ++ Array.replicate m false) := by
        refine ⟨by simp; omega, fun j oj hj hlj e he hbe => ?_, fun t ht htl => padded_hi hLs ht (by simp at htl; omega) _⟩
        have hjl : j < l.length := by simpa using (Array.getElem?_eq_some_iff.1 hj).1
        by_cases hjn : j < n
        · rw [padded_lo hLs hjn] at hlj
          rw [hget j hjn] at hj
          have h1 := hcl j oj hj hlj e he hbe
          have h2 := hb j oj hj e he hbe
          rw [padded_lo hLs (by omega)]
          exact h1
        · rw [padded_hi hLs (by omega) (by omega)] at hlj; cases hlj
      have hwait := tail_waits hs hc (by simpa using hn) inv _ k0 rfl hk0 (by rw [padded_lo hLs hk0, getD_in (by omega) true false]; exact hk0f)
      have hmem : ∀ i, i ∈ Region.ready .any l.toArray (L ++ Array.replicate m false) → i < n ∧ L.getD i false = false ∧ ∃ o, (l.take n).toArray[i]? = some o ∧ ∀ e ∈ o.after, Region.binds .any e = true → L.getD e.on false = true := by
        intro i hi
        have hin : i < n := by
          by_cases h : i < n
          · exact h
          · exact absurd hi (hwait i (by omega))
        obtain ⟨_, h2, o, ho, h3⟩ := mem_ready_iff.1 hi
        rw [padded_lo hLs hin, getD_in (by omega) true false] at h2
        rw [hget i hin] at ho
        refine ⟨hin, h2, o, ho, fun e he hbe => ?_⟩
        have h4 := h3 e he hbe
        have h5 := hb i o ho e he hbe
        rwa [padded_lo hLs (by omega)] at h4
      rw [show c + 1 + m = (c + m) + 1 by omega]
      refine ⟨fun hr => ?_, fun i hi => ?_⟩
      · exfalso
        -- the first one that is not listed may come up
        have hex : ∀ k, k < n → L.getD k false = true := by
          intro k
          induction k using Nat.strongRecOn with
          | ind k ihk =>
            intro hk
            cases hbk : L.getD k false with
            | true => rfl
            | false =>
              exfalso
              have hk2 : k < (l.take n).toArray.size := by omega
              have hko : l.toArray[k]? = some (l.take n).toArray[k] := by rw [hget k hk]; exact Array.getElem?_eq_getElem hk2
              have : k ∈ Region.ready .any l.toArray (L ++ Array.replicate m false) := mem_ready_iff.2 ⟨by simp; omega, by rw [padded_lo hLs hk, getD_in (by omega) true false]; exact hbk, (l.take n).toArray[k], hko, fun e he hbe => by
                have h5 := hb k _ (Array.getElem?_eq_getElem hk2) e he hbe
                rw [padded_lo hLs (by omega)]
                exact ihk e.on h5 (by omega)⟩
              rw [hr] at this
              cases this
        have := hex k0 hk0
        rw [hk0f] at this
        cases this
      · obtain ⟨hin, h2, o, ho, h3⟩ := hmem i hi
        have hiL : i < L.size := by omega
        refine wpOp_step (by rw [hget i hin]; exact ho) fun K hK => ?_
        obtain ⟨hw, hwp⟩ := hstep i o L a w K hin ho hrep h2 h3 (fun a' w' hr => hK a' w' (by
          rw [padded_set hLs hin]
          refine ih _ _ _ ?_ hr ?_
          · have hLi : L[i] = false := by simpa [Array.getD, hiL] using h2
            have := List.count_set (l := L.toList) (i := i) (a := true) (b := false) (by simpa using hiL)
            simp only [Array.toList_setIfInBounds]
            have e : L.toList[i]'(by simpa using hiL) = false := by simpa using hLi
            rw [this, e, if_pos (show (false == false) = true from rfl), if_neg (show ¬ ((true == false) = true) by decide)]
            omega
          · intro j oj hj hlj e he hbe
            by_cases hji : j = i
            · subst hji
              rw [ho] at hj
              cases hj
              have h5 := hb j o ho e he hbe
              rw [getD_set_other (by omega)]
              exact h3 e he hbe
            · rw [getD_set_other hji] at hlj
              have h6 := hcl j oj hj hlj e he hbe
              by_cases hei : e.on = i
              · rw [hei]; exact getD_set_same hiL false
              · rw [getD_set_other hei]; exact h6))
        rw [if_pos hw]
        exact hwp
  have := main n (Array.replicate n false) a0 { W with drawn := W.drawn + 1 } (by simp) (by have := rept_start (R := R) (i1 := i1) (al := al) (ops := (l.take n).toArray) (die := die) (own := own) (F := F) (a0 := a0) (W := W); rwa [hsz] at this) (fun j o _ hl => by
    rw [getD_replicate_false] at hl; cases hl)
  rw [show n + m = l.toArray.size by simp; omega] at this
  rw [show Array.replicate l.toArray.size false = Array.replicate n false ++ Array.replicate m false by rw [Array.replicate_append_replicate]; congr 1; simp; omega]
  exact this

/-- Where a step's new value may lie. -/
def FreshT (R : Option Nat) (i1 : Nat) (al own : Nat → Bool) (W : World) (i : Nat) (w : World) (row : Option Nat) (v : Value) : Prop :=
  bk al i v = none ∨ (∃ g, bk al i v = some g ∧ w.heap.size ≤ g) ∨ bk al i v = row ∨ (own i = false ∧ ∃ g, bk al i v = some g ∧ g < W.heap.size ∧ some g ≠ R) ∨ (i = i1 ∧ bk al i v = R)

theorem FreshT.old {i1 : Nat} {al own : Nat → Bool} {W : World} {i : Nat} {w : World} {row : Option Nat} {v : Value} (hi : own i = false) (h : ∀ g, bk al i v = some g → g < W.heap.size) : FreshT none i1 al own W i w row v := by
  cases e : bk al i v with
  | none => exact .inl e
  | some g => exact .inr (.inr (.inr (.inl ⟨hi, g, e, h g e, by simp⟩)))

/-- The same, each step's end told by what it leaves. -/
theorem wp_region_gt {l : List Oper} (n : Nat) {N : Nat} {S : Nat → Bool} {id : Nat} {Q : Exit → Act → World → Prop} (hm : P.follows .mixedOrders = true) (hn : n < l.length)
    (hs : Region.sinkB .any l.toArray n = true) (hc : Region.chainB .any l.toArray n = true) (hsq : Region.seqB .any l.toArray (l.length - n) n (Array.replicate n true ++ Array.replicate (l.length - n) false) = true)
    (hok : regionOkT (l.take n).toArray N S = true) (hN : N ≤ a0.tmps.size) (hR : ∀ g, R = some g → g < W.heap.size) (hF : ∀ k, LastsK al q k (F k))
    (hstep : ∀ (i : Nat) (o : Oper) (L : Array Bool) (a : Act) (w : World) (K : Act → World → Prop), i < n → (l.take n).toArray[i]? = some o → W.grownBy w R → (i = i1 → W.grownBy w none) → L.getD i false = false → (∀ k, n ≤ k → L.getD k false = false) →
      (∀ j, (o.after.toList.any fun e => Region.binds .any e && e.on == j) = true → L.getD j false = true) →
      (∀ t, S t = false → a.eval (.tmp t) = a0.eval (.tmp t)) →
      (∀ k, k < n → liveAt die L k → F k (a.eval (.tmp (slotOf (l.take n).toArray k))) w) →
      (∀ (v : Value) (w' : World), w.grownBy w' none → F i v w' → (∀ g, bk al i v = some g → g < w'.heap.size) → FreshT R i1 al own W i w none v → K (a.put o.dst v) w') →
      (q = false → ∀ (k : Nat) (v : Value) (w' : World), k < n → liveAt die L k → own k = true → die k = i → w.grownBy w' (bk al k (a.eval (.tmp (slotOf (l.take n).toArray k)))) →
        F i v w' → (∀ g, bk al i v = some g → g < w'.heap.size) → FreshT R i1 al own W i w (bk al k (a.eval (.tmp (slotOf (l.take n).toArray k)))) v → K (a.put o.dst v) w') →
      Region.wanted o (yielded l.toArray a.tmps) = true ∧ Oper.wp P o a w K Q)
    (hend : ∀ (a : Act) (w : World), W.grownBy w R →
      (∀ k, k < n → n ≤ die k → F k (a.eval (.tmp (slotOf (l.take n).toArray k))) w ∧ (own k = true → ∀ g, bk al k (a.eval (.tmp (slotOf (l.take n).toArray k))) = some g → W.heap.size ≤ g ∨ some g = R)) →
      (∀ k j, k < n → j < n → k ≠ j → n ≤ die k → n ≤ die j → own k = true → bk al j (a.eval (.tmp (slotOf (l.take n).toArray j))) = none ∨ bk al j (a.eval (.tmp (slotOf (l.take n).toArray j))) ≠ bk al k (a.eval (.tmp (slotOf (l.take n).toArray k)))) →
      a = { tmps := (fill S (fun t => a.tmps.getD t undef) 0 a0.tmps.toList).toArray, defers := a0.defers } → wpList P l.toArray Q (l.drop n) a w) :
    (Code.region id l.toArray true).wp P Q a0 W := by
  have hsz : (l.take n).toArray.size = n := by simp; omega
  refine wp_region_tail (R := R) (i1 := i1) (al := al) (die := die) (own := own) (F := F) n hm hn hs hc hsq (regionOkT_back hok) ?_ ?_
  · intro i o L a w K hi ho hrep hLi hpre hK
    have hout : ∀ k : Nat, n ≤ k → L.getD k false = false := by
      intro k hk
      have hk' : ¬ k < L.size := by rw [hrep.size]; omega
      simp [Array.getD, hk']
    refine hstep i o L a w K hi ho hrep.old (fun e => hrep.oldN (by rw [← e]; exact hLi)) hLi hout ?_ ?_ ?_ ?_ ?_
    · intro j hj
      obtain ⟨n', hn', hb, rfl⟩ : ∃ (n : Nat) (h : n < o.after.size), Region.binds Region.Mode.any o.after[n] = true ∧ o.after[n].on = j := by simpa using hj
      exact hpre _ (Array.getElem_mem hn') hb
    · intro t ht
      exact hrep.frame t fun k hk e => by
        have := (regionOkT_slot hok hk).2.1
        rw [e, ht] at this
        cases this
    · intro k hk hl
      exact (hrep.item k (by omega) hl).1
    · intro v w' hg hv hlt hnew
      exact hK _ _ (rept_go hok hN hR hF hrep (by omega) hLi ho hg (.inl rfl) (fun _ => rfl) hv hlt hnew)
    · intro hqf k v w' hk hl hok' hd hg hv hlt hnew
      exact hK _ _ (rept_go hok hN hR hF hrep (by omega) hLi ho hg (.inr ⟨k, by omega, hl, hok', hd, rfl⟩) (fun h => by rw [hqf] at h; cases h) hv hlt hnew)
  · intro L a w hl hrep
    have hlive : ∀ k, k < n → n ≤ die k → liveAt die L k := fun k hk hd => ⟨hl k hk, by
      have : ¬ die k < L.size := by rw [hrep.size]; omega
      simp [Array.getD, this]⟩
    exact hend a w hrep.old (fun k hk hd => ⟨(hrep.item k (by omega) (hlive k hk hd)).1, (hrep.item k (by omega) (hlive k hk hd)).2.2⟩)
      (fun k j hk hj hkj hdk hdj hok => hrep.apart k j (by omega) (by omega) hkj (hlive k hk hdk) (hlive j hj hdj) hok) (rept_frame hok hrep)
end

section
variable {P : Program} {o : Oper} {a : Act} {w : World} {K : Act → World → Prop} {Q : Exit → Act → World → Prop}
/-- A variable, made. -/
theorem wp_alloc {t : TypeId} {C : Array Value} (ho : o.op = .alloc t) (hrun : (Instr.alloc t true (.tuple #[])).run P w = .ok (.pointer (some ⟨w.heap.size, 0, none⟩)) (w.alloc (.cells C t))) (h : K (a.put o.dst (.pointer (some ⟨w.heap.size, 0, none⟩))) (w.alloc (.cells C t))) : Oper.wp P o a w K Q := by
  unfold Oper.wp execOp
  simp only [ho, Sem.run_bind, hrun, Result.andThen_ok, Sem.run_pure]
  exact h
/-- A struct's field's address. -/
theorem wp_field {t : TypeId} {x : Operand} {i : Nat} {xv v : Value} (ho : o.op = .fieldAddr t x i) (hx : a.eval x = xv) (hrun : ∀ w, (Instr.fieldAt t xv i).run P w = .ok v w) (h : K (a.put o.dst v) w) : Oper.wp P o a w K Q := by
  unfold Oper.wp execOp
  simp only [ho, hx, Sem.run_bind, hrun, Result.andThen_ok, Sem.run_pure]
  exact h
/-- A one-cell load. -/
theorem wp_loadC {t : TypeId} {x : Operand} {xv v : Value} (ho : o.op = .load t x) (hx : a.eval x = xv) (hrun : (Instr.loadAt t xv).run P w = .ok v w) (h : K (a.put o.dst v) w) : Oper.wp P o a w K Q := by
  unfold Oper.wp execOp
  simp only [ho, hx, Sem.run_bind, hrun, Result.andThen_ok, Sem.run_pure]
  exact h
end
theorem eval_const (a : Act) (c : Value) : a.eval (.const c) = c := rfl
theorem load_cell {P : Program} {w : World} {t : TypeId} {ad : Addr} {v : Value} {d : TypeDesc} (hc : w.cell? ad = some v) (hu : P.underlying t = some d) (hd : d.isRow = false) : (Instr.loadAt t (.pointer (some ad))).run P w = .ok v w := by
  have hagg : (isAgg t).run P w = .ok false w := by
    unfold isAgg
    rw [Sem.run_bind, run_underlying hu w]
    cases d <;> simp_all
  simp [Instr.loadAt, Instr.sureAddr, loadVar, Sem.run_bind, hagg, hc]
theorem alloc_H (w : World) : (Instr.alloc 44 true (.tuple #[])).run Tryd.prog w = .ok (.pointer (some ⟨w.heap.size, 0, none⟩)) (w.alloc (.cells (rowH []) 44)) := by kernel_rfl
end Go.Proofs.YtpeepiboocdnaaaDoor

namespace Go.Proofs.YtpeepiboocdnaaaDoor
open Go.RowKit

def rkS (t : Nat) : Bool := t == 8 || t == 9 || t == 10 || t == 11 || t == 12 || t == 13 || t == 14 || t == 15 || t == 16 || t == 17
def rkDie (_ : Nat) : Nat := 99
def rkOwn (_ : Nat) : Bool := false
def rkAl (_ : Nat) : Bool := false
def rkF (s : List UInt8) (k : Nat) (u3 : Value) (X0 X1 Y0 Y1 Z : List UInt8) : Nat → Value → World → Prop
  | 0 => fun v _ => v = u3
  | 1 => fun v _ => v = (.agg (s.map bv).toArray)
  | 2 => fun v _ => v = (.int .i64 (k : Int))
  | 3 => fun v _ => v = (.agg (X0.map bv).toArray)
  | 4 => fun v _ => v = (.agg (Y0.map bv).toArray)
  | 5 => fun v _ => v = (.agg (s.map bv).toArray)
  | 6 => fun v _ => v = (.int .i64 (k : Int))
  | 7 => fun v _ => v = (.agg (X1.map bv).toArray)
  | 8 => fun v _ => v = (.agg (Y1.map bv).toArray)
  | 9 => fun v w => ∃ b, v = .slice (some ⟨b, 0, none⟩) 2 2 ∧ RdB w (some ⟨b, 0, none⟩) Z
  | _ => fun _ _ => True
theorem rkF_lasts (s : List UInt8) (k : Nat) (u3 : Value) (X0 X1 Y0 Y1 Z : List UInt8) : ∀ kq, LastsK rkAl true kq (rkF s k u3 X0 X1 Y0 Y1 Z kq)
  | 0 => LastsK.val _
  | 1 => LastsK.val _
  | 2 => LastsK.val _
  | 3 => LastsK.val _
  | 4 => LastsK.val _
  | 5 => LastsK.val _
  | 6 => LastsK.val _
  | 7 => LastsK.val _
  | 8 => LastsK.val _
  | 9 => LastsK.calm fun _ _ _ ⟨b, h1, h2⟩ hg => ⟨b, h1, h2.kept hg⟩
  | _ + 10 => fun _ _ _ _ _ _ _ _ => trivial

end Go.Proofs.YtpeepiboocdnaaaDoor

namespace Go.Proofs.YtpeepiboocdnaaaDoor
open Go.RowKit

theorem set_two {w : World} {g : Nat} {t : TypeId} {x y : Value} (h : w.heap[g]? = some (.cells #[x, y] t (0, 0))) (z : Value) :
    (w.setCell ⟨g, 0, none⟩ z).heap[g]? = some (.cells #[z, y] t (0, 0)) ∧ (w.setCell ⟨g, 1, none⟩ z).heap[g]? = some (.cells #[x, z] t (0, 0)) :=
  ⟨heap_setCell_to h rfl, heap_setCell_to h rfl⟩
theorem grown_cell1 (w : World) (g i : Nat) (z : Value) : w.grownBy (w.setCell ⟨g, i, none⟩ z) (some g) := grown_set (grown_refl _ _) (p := ⟨g, i, none⟩) (.inl rfl) z
theorem own_ne {v : Value} {g b : Nat} (h : ∀ k, v.ownBlock = some k → b ≤ k) (hg : g < b) : v.ownBlock = none ∨ v.ownBlock ≠ some g := by
  by_cases e : v.ownBlock = some g
  · have := h g e; omega
  · exact .inr e
theorem ne_own {v : Value} {g b : Nat} (h : ∀ k, v.ownBlock = some k → b ≤ k) (hg : g < b) : some g ≠ v.ownBlock := fun e => by have := h g e.symm; omega
theorem Kn.row {w wz wy : World} {bs : List (Nat × Obj)} (h : Kn w bs wz) {row : Option Nat} (hg : wz.grownBy wy row) (h0 : ∀ g, row = some g → w.heap.size ≤ g) (hne : ∀ p ∈ bs, some p.1 ≠ row) : Kn w bs wy :=
  ⟨grown_trans h.1 hg (.inr h0), fun p hp => other_block (h.2 p hp) hg (hne p hp)⟩
theorem guard_sub (x y : Operand) (xv yv : Value) (w : World) : (eqGuard .sub 3 x y xv yv).run Tryd.prog w = .ok () w := by kernel_rfl
theorem sub1_i64 (b d : Nat) (h : IntKind.i64.wrap (1 - (b : Int)) = (d : Int)) (w : World) : (binOp .sub 3 (.int .i64 1) (.int .i64 b)).run Tryd.prog w = .ok (.int .i64 d) w := by
  have e : (binOp .sub 3 (.int .i64 1) (.int .i64 b)).run Tryd.prog w = .ok (.int .i64 (IntKind.i64.wrap (1 - (b : Int)))) w := by kernel_rfl
  rw [e, h]
theorem FreshT.grew {R : Option Nat} {i1 : Nat} {al own : Nat → Bool} {W : World} {i k : Nat} {w w' : World} {u v : Value} (ha : al i = false) (hk : bk al k u = u.ownBlock) (h : Grew w w' u v) : FreshT R i1 al own W i w (bk al k u) v := by
  have hb : bk al i v = v.ownBlock := by simp [bk, ha]
  rcases h.2 with e | ⟨g, e, hg⟩
  · exact .inr (.inr (.inl (by rw [hb, hk, e])))
  · exact .inr (.inl ⟨g, by rw [hb, e], hg⟩)
theorem LastsK.ownHs {al : Nat → Bool} {q : Bool} {k : Nat} (ha : al k = false) (u : Value) (l : List UInt8) (n : Nat) : LastsK al q k fun v w => v = u ∧ OwnHs w v l n := .of ha fun _ _ _ _ h hg hne => ⟨h.1, h.2.keep hg hne⟩
theorem LastsK.litHs {al : Nat → Bool} {q : Bool} {k : Nat} (ha : al k = false) (l : List UInt8) (n : Nat) : LastsK al q k fun v w => ∃ b, v = .slice (some ⟨b, 0, none⟩) n n ∧ RdB w (some ⟨b, 0, none⟩) l := .of ha (by
  rintro v w w' row ⟨b, rfl, h⟩ hg hne
  refine ⟨b, rfl, h.keep hg fun ad e er => ?_⟩
  cases e
  rcases hne with h1 | h1
  · cases h1
  · exact h1 er)
/-- The row that an append leaves: the old one's block, or a new one. -/
def Grown (R : Option Nat) (W : World) (l : List UInt8) (n : Nat) (v : Value) (w : World) : Prop := OwnHs w v l n ∧ (v.ownBlock = R ∨ ∃ g, v.ownBlock = some g ∧ W.heap.size ≤ g)
theorem LastsK.grown {al : Nat → Bool} {q : Bool} {k : Nat} (ha : al k = false) (R : Option Nat) (W : World) (l : List UInt8) (n : Nat) : LastsK al q k (Grown R W l n) := .of ha fun _ _ _ _ h hg hne => ⟨h.1.keep hg hne, h.2⟩
theorem Grown.grew {R : Option Nat} {W w w' : World} {u v : Value} {l : List UInt8} {n : Nat} (hs : W.heap.size ≤ w.heap.size) (hR : u.ownBlock = R) (h : OwnHs w' v l n) (hg : Grew w w' u v) : Grown R W l n v w' := ⟨h, by
  rcases hg.2 with e | ⟨g, e, h1⟩
  · exact .inl (by rw [e, hR])
  · exact .inr ⟨g, e, Nat.le_trans hs h1⟩⟩
theorem app_apart {W : World} {v v' u : Value} (h : v'.ownBlock = v.ownBlock ∨ ∃ g, v'.ownBlock = some g ∧ W.heap.size ≤ g) (hu : ∀ g, u.ownBlock = some g → g < W.heap.size) (h2 : u.ownBlock = none ∨ u.ownBlock ≠ v.ownBlock) :
    (v'.ownBlock = none ∨ v'.ownBlock ≠ u.ownBlock) ∧ (u.ownBlock = none ∨ u.ownBlock ≠ v'.ownBlock) := by
  have h3 : u.ownBlock = none ∨ u.ownBlock ≠ v'.ownBlock := by
    rcases h with e | ⟨g, e, hg⟩
    · rw [e]; exact h2
    · by_cases e2 : u.ownBlock = some g
      · have := hu g e2; omega
      · rw [e]; exact .inr e2
  refine ⟨?_, h3⟩
  rcases h3 with h | h
  · cases e : v'.ownBlock with
    | none => exact .inl rfl
    | some g => rw [h]; exact .inr (by simp)
  · exact .inr (Ne.symm h)
theorem app_ge {W : World} {v v' : Value} {b : Nat} (hh : v'.ownBlock = v.ownBlock ∨ ∃ g, v'.ownBlock = some g ∧ W.heap.size ≤ g) (h : ∀ g, v.ownBlock = some g → b ≤ g) (hb : b ≤ W.heap.size) : ∀ g, v'.ownBlock = some g → b ≤ g := by
  intro g hg
  rcases hh with e | ⟨g', e, hg'⟩
  · exact h g (by rw [← e]; exact hg)
  · rw [e] at hg; cases hg; omega

def saS (t : Nat) : Bool := t == 14 || t == 15 || t == 16 || t == 17 || t == 18 || t == 19 || t == 20 || t == 21 || t == 22
def saDie (k : Nat) : Nat := if k = 1 then 7 else 99
def saOwn (k : Nat) : Bool := k == 1
def saAl (_ : Nat) : Bool := false
def saF (s : List UInt8) (k b : Nat) (g5 : Nat) (v1 : Value) (D1 Y : List UInt8) (wr : World) : Nat → Value → World → Prop
  | 0 => fun v _ => v = .pointer (some ⟨g5, 0, none⟩)
  | 1 => fun x w => x = v1 ∧ OwnHs w x D1 k
  | 2 => fun v _ => v = (.agg (s.map bv).toArray)
  | 3 => fun v _ => v = (.int .i64 (k : Int))
  | 4 => fun v _ => v = (.int .i64 (b : Int))
  | 5 => fun v _ => v = (.agg (Y.map bv).toArray)
  | 6 => fun x w => ∃ c, x = .slice (some ⟨c, 0, none⟩) 1 1 ∧ RdB w (some ⟨c, 0, none⟩) Y
  | 7 => Grown v1.ownBlock wr (D1 ++ Y) (k + 1)
  | 8 => fun v _ => v = .pointer (some ⟨g5, 0, none⟩)
  | _ => fun _ _ => True
theorem saF_lasts (s : List UInt8) (k b : Nat) (g5 : Nat) (v1 : Value) (D1 Y : List UInt8) (wr : World) : ∀ kq, LastsK saAl false kq (saF s k b g5 v1 D1 Y wr kq)
  | 0 => LastsK.val _
  | 1 => LastsK.ownHs rfl _ _ _
  | 2 => LastsK.val _
  | 3 => LastsK.val _
  | 4 => LastsK.val _
  | 5 => LastsK.val _
  | 6 => LastsK.litHs rfl _ _
  | 7 => LastsK.grown rfl _ _ _ _
  | 8 => LastsK.val _
  | _ + 9 => fun _ _ _ _ _ _ _ _ => trivial
def sbS (t : Nat) : Bool := t == 23 || t == 24 || t == 25 || t == 26 || t == 27 || t == 28 || t == 29 || t == 30 || t == 31 || t == 32 || t == 33
def sbDie (k : Nat) : Nat := if k = 1 then 9 else 99
def sbOwn (k : Nat) : Bool := k == 1
def sbAl (_ : Nat) : Bool := false
def sbF (s : List UInt8) (k b d : Nat) (g5 : Nat) (v2 : Value) (D2 Z T : List UInt8) (wr : World) : Nat → Value → World → Prop
  | 0 => fun v _ => v = .pointer (some ⟨g5, 1, none⟩)
  | 1 => fun x w => x = v2 ∧ OwnHs w x D2 k
  | 2 => fun v _ => v = (.agg (s.map bv).toArray)
  | 3 => fun v _ => v = (.int .i64 (k : Int))
  | 4 => fun v _ => v = (.int .i64 (b : Int))
  | 5 => fun v _ => v = (.int .i64 (d : Int))
  | 6 => fun v _ => v = (.agg (Z.map bv).toArray)
  | 7 => fun v _ => v = (.agg (T.map bv).toArray)
  | 8 => fun x w => ∃ c, x = .slice (some ⟨c, 0, none⟩) 1 1 ∧ RdB w (some ⟨c, 0, none⟩) T
  | 9 => Grown v2.ownBlock wr (D2 ++ T) (k + 1)
  | 10 => fun v _ => v = .pointer (some ⟨g5, 1, none⟩)
  | _ => fun _ _ => True
theorem sbF_lasts (s : List UInt8) (k b d : Nat) (g5 : Nat) (v2 : Value) (D2 Z T : List UInt8) (wr : World) : ∀ kq, LastsK sbAl false kq (sbF s k b d g5 v2 D2 Z T wr kq)
  | 0 => LastsK.val _
  | 1 => LastsK.ownHs rfl _ _ _
  | 2 => LastsK.val _
  | 3 => LastsK.val _
  | 4 => LastsK.val _
  | 5 => LastsK.val _
  | 6 => LastsK.val _
  | 7 => LastsK.val _
  | 8 => LastsK.litHs rfl _ _
  | 9 => LastsK.grown rfl _ _ _ _
  | 10 => LastsK.val _
  | _ + 11 => fun _ _ _ _ _ _ _ _ => trivial

end Go.Proofs.YtpeepiboocdnaaaDoor

namespace Go.Proofs.YtpeepiboocdnaaaDoor
open Go.RowKit

/-- The blocks that a value's slices lie in. -/
def sliceBlocks : List Value → List Nat
  | [] => []
  | .slice (some a) _ _ :: r => a.block :: sliceBlocks r
  | _ :: r => sliceBlocks r
def blocksOf : Value → List Nat
  | .slice (some a) _ _ => [a.block]
  | .agg cs => sliceBlocks cs.toList
  | _ => []
/-- The blocks of operation k's value: a variable's, if it makes or writes one. -/
def ptrsOf : Value → List Nat
  | .pointer (some a) => [a.block]
  | .tuple cs => (match cs.toList with | .pointer (some a) :: _ => [a.block] | _ => [])
  | _ => []
def bl (al : Nat → Bool) (k : Nat) (v : Value) : List Nat := bif al k then ptrsOf v else blocksOf v
theorem blocks_bytes (l : List UInt8) : blocksOf (.agg (l.map bv).toArray) = [] := by
  show sliceBlocks (l.map bv) = []
  induction l with
  | nil => rfl
  | cons x l ih => exact ih
theorem nobl {x : List Nat} {p : Nat → Prop} (h : x = []) : ∀ g ∈ x, p g := fun g e => by rw [h] at e; cases e
def LastsB (al : Nat → Bool) (k : Nat) (F : Value → World → Prop) : Prop := ∀ v w w' row, F v w → w.grownBy w' row → (∀ g ∈ bl al k v, some g ≠ row) → F v w'
theorem LastsB.val {al : Nat → Bool} {k : Nat} (c : Value) : LastsB al k fun v _ => v = c := fun _ _ _ _ h _ _ => h
theorem LastsB.made {al : Nat → Bool} {k : Nat} (ha : al k = true) (Z : Array Value) (t : TypeId) : LastsB al k (Made Z t) := by
  rintro v w w' row ⟨b, rfl, h⟩ hg hne
  exact ⟨b, rfl, other_block h hg (hne b (by simp [bl, ha, ptrsOf]))⟩
theorem LastsB.of {al : Nat → Bool} {k : Nat} {F : Value → World → Prop} (ha : al k = false) (h : Lasts F) : LastsB al k F := fun v w w' row hf hg hne => h v w w' row hf hg (by
  cases v with
  | slice A n c =>
    cases A with
    | none => exact .inl rfl
    | some ad => exact .inr (hne ad.block (by simp [bl, ha, blocksOf]))
  | _ => exact .inl rfl)

/-- A variable written: its address, and what was written. -/
def Stored (t : TypeId) (v : Value) (w : World) : Prop := ∃ b cs, v = .tuple #[.pointer (some ⟨b, 0, none⟩), .agg cs] ∧ w.heap[b]? = some (.cells cs t (0, 0))
theorem LastsB.stored {al : Nat → Bool} {k : Nat} (ha : al k = true) (t : TypeId) : LastsB al k (Stored t) := by
  rintro v w w' row ⟨b, cs, rfl, h⟩ hg hne
  exact ⟨b, cs, rfl, other_block h hg (hne b (by simp [bl, ha, ptrsOf]))⟩

/-- The slots that an operation's item looks at: what it yields; or the address and the value of a store. -/
def operandSlot : Operand → List Nat
  | .tmp x => [x]
  | _ => []
def slotsOf (o : Oper) : List Nat := match o.dst with
  | some d => [d]
  | none => match o.op with | .store _ x y => operandSlot x ++ operandSlot y | _ => []
def slotsB (ops : Array Oper) (k : Nat) : List Nat := (ops[k]?.map slotsOf).getD []
def valO (o : Oper) (a : Act) : Value := match o.dst with
  | some d => a.tmps.getD d undef
  | none => match o.op with | .store _ x y => .tuple #[a.eval x, a.eval y] | _ => undef
def valB (ops : Array Oper) (a : Act) (k : Nat) : Value := (ops[k]?.map fun o => valO o a).getD undef
theorem eval_put {a : Act} {d : Nat} {v : Value} {x : Operand} (h : d ∉ operandSlot x) : (a.put (some d) v).eval x = a.eval x := by
  cases x with
  | tmp t =>
    have : t ≠ d := fun e => h (by simp [operandSlot, e])
    exact tmps_put_other this
  | _ => rfl
theorem valO_put {o : Oper} {a : Act} {d : Nat} {v : Value} (h : d ∉ slotsOf o) : valO o (a.put (some d) v) = valO o a := by
  unfold slotsOf at h
  unfold valO
  cases hd : o.dst with
  | some d' =>
    rw [hd] at h
    simp only [List.mem_singleton] at h
    exact tmps_put_other (Ne.symm h)
  | none =>
    rw [hd] at h
    cases ho : o.op with
    | store t x y =>
      rw [ho] at h
      simp only [List.mem_append, not_or] at h
      simp only [eval_put h.1, eval_put h.2]
    | _ => rfl

section
variable {al : Nat → Bool} {ops : Array Oper} {die : Nat → Nat} {own : Nat → Bool} {F : Nat → Value → World → Prop} {a0 : Act} {W : World}
structure RepB (al : Nat → Bool) (ops : Array Oper) (die : Nat → Nat) (own : Nat → Bool) (F : Nat → Value → World → Prop) (a0 : Act) (W : World) (L : Array Bool) (a : Act) (w : World) : Prop where
  size : L.size = ops.size
  defers : a.defers = a0.defers
  tmps : a.tmps.size = a0.tmps.size
  frame : ∀ t, (∀ k, k < ops.size → ∀ o, ops[k]? = some o → o.dst ≠ some t) → a.tmps.getD t undef = a0.tmps.getD t undef
  old : W.grownBy w none
  closed : ∀ j o, ops[j]? = some o → L.getD j false = true → ∀ e ∈ o.after, Region.binds .any e = true → L.getD e.on false = true
  item : ∀ k, k < ops.size → liveAt die L k → F k (valB ops a k) w ∧ (∀ g ∈ bl al k (valB ops a k), g < w.heap.size) ∧ (own k = true → ∀ g ∈ bl al k (valB ops a k), W.heap.size ≤ g)
  apart : ∀ k j, k < ops.size → j < ops.size → k ≠ j → liveAt die L k → liveAt die L j → own k = true → ∀ g ∈ bl al j (valB ops a j), g ∉ bl al k (valB ops a k)

/-- What the kernel can see of a region's text. -/
def edgeB (ops : Array Oper) (k j : Nat) : Bool := ((ops[k]?).map fun o => o.dst.isNone && o.after.any fun e => Region.binds .any e && e.on == j).getD false
def regionOkB (ops : Array Oper) (N : Nat) (S : Nat → Bool) : Bool :=
  (List.range ops.size).all fun k => ((ops[k]?).map fun o => (o.after.all fun e => !(Region.binds .any e) || decide (e.on < k)) && (match o.dst with | some d => decide (d < N) && S d && (List.range ops.size).all (fun j => k == j || !(slotsB ops j).contains d || edgeB ops j k) | none => true)).getD false
theorem regionOkB_back {N : Nat} {S : Nat → Bool} (h : regionOkB ops N S = true) : ∀ (k : Nat) (o : Oper), ops[k]? = some o → ∀ e ∈ o.after, Region.binds .any e = true → e.on < k := by
  intro k o ho e he hbe
  have hk : k < ops.size := (Array.getElem?_eq_some_iff.1 ho).1
  simp only [regionOkB, List.all_eq_true, List.mem_range] at h
  have h1 := h k hk
  simp only [ho, Option.map_some, Option.getD_some, Bool.and_eq_true, Array.all_eq_true_iff_forall_mem] at h1
  have := h1.1 e he
  simpa [hbe] using this
theorem regionOkB_dst {N : Nat} {S : Nat → Bool} (h : regionOkB ops N S = true) {k : Nat} {o : Oper} (ho : ops[k]? = some o) {d : Nat} (hd : o.dst = some d) : d < N ∧ S d = true ∧ ∀ j, j < ops.size → j ≠ k → d ∈ slotsB ops j → edgeB ops j k = true := by
  have hk : k < ops.size := (Array.getElem?_eq_some_iff.1 ho).1
  simp only [regionOkB, List.all_eq_true, List.mem_range] at h
  have h1 := h k hk
  simp only [ho, hd, Option.map_some, Option.getD_some, Bool.and_eq_true, decide_eq_true_eq, List.all_eq_true, List.mem_range] at h1
  refine ⟨h1.2.1.1, h1.2.1.2, fun j hj hjk hm => ?_⟩
  have h2 := h1.2.2 j hj
  simp only [Bool.or_eq_true, beq_iff_eq, Bool.not_eq_true', List.contains_eq_mem, decide_eq_false_iff_not] at h2
  rcases h2 with (h2 | h2) | h2
  · exact absurd h2.symm hjk
  · exact absurd hm h2
  · exact h2
theorem edgeB_spec {k j : Nat} (h : edgeB ops k j = true) : ∃ o, ops[k]? = some o ∧ o.dst = none ∧ ∃ e ∈ o.after, Region.binds .any e = true ∧ e.on = j := by
  unfold edgeB at h
  cases ho : ops[k]? with
  | none => rw [ho] at h; simp at h
  | some o =>
    rw [ho] at h
    simp only [Option.map_some, Option.getD_some, Bool.and_eq_true, Option.isNone_iff_eq_none] at h
    obtain ⟨i, hi, h2⟩ := Array.any_eq_true.1 h.2
    simp only [Bool.and_eq_true, beq_iff_eq] at h2
    exact ⟨o, rfl, h.1, _, Array.getElem_mem hi, h2.1, h2.2⟩

theorem repb_step {N : Nat} {S : Nat → Bool} (hok : regionOkB ops N S = true) (hN : N ≤ a0.tmps.size) (hF : ∀ k, LastsB al k (F k)) {L : Array Bool} {a : Act} {w : World} (h : RepB al ops die own F a0 W L a w) {i : Nat} (hi : i < ops.size) (hLf : L.getD i false = false)
    {o : Oper} (ho : ops[i]? = some o) (hpre : ∀ e ∈ o.after, Region.binds .any e = true → L.getD e.on false = true) {v : Value} {w' : World} {row : Option Nat} (hg : w.grownBy w' row)
    (hdst : (∃ d, o.dst = some d) ∨ (o.dst = none ∧ v = valB ops a i))
    (hrow : ∀ g, row = some g → ∃ k, k < ops.size ∧ liveAt die L k ∧ own k = true ∧ die k = i ∧ g ∈ bl al k (valB ops a k))
    (hv : F i v w') (hlt : ∀ g ∈ bl al i v, g < w'.heap.size)
    (hnew : ∀ g ∈ bl al i v, w.heap.size ≤ g ∨ (∃ k, k < ops.size ∧ liveAt die L k ∧ own k = true ∧ die k = i ∧ g ∈ bl al k (valB ops a k)) ∨ (own i = false ∧ g < W.heap.size)) (u : Value) (hu : (∃ d, o.dst = some d) → u = v) :
    RepB al ops die own F a0 W (L.setIfInBounds i true) (a.put o.dst u) w' := by
  have hLi : i < L.size := by rw [h.size]; exact hi
  -- another item's value stays, if it is live
  have hval : ∀ k, k < ops.size → k ≠ i → L.getD k false = true → valB ops (a.put o.dst u) k = valB ops a k := by
    intro k hk hki hkl
    rcases hdst with ⟨d, hd⟩ | ⟨hd, _⟩
    · rw [hd]
      unfold valB
      rw [Array.getElem?_eq_getElem hk, Option.map_some, Option.map_some, Option.getD_some, Option.getD_some]
      refine valO_put fun hm => ?_
      have hm' : d ∈ slotsB ops k := by unfold slotsB; rw [Array.getElem?_eq_getElem hk]; exact hm
      obtain ⟨o', ho', _, e', he', hb, hon⟩ := edgeB_spec ((regionOkB_dst hok ho hd).2.2 k hk hki hm')
      have := h.closed k o' ho' hkl e' he' hb
      rw [hon, hLf] at this
      cases this
    · rw [hd]; rfl
  have hvi : valB ops (a.put o.dst u) i = v := by
    rcases hdst with ⟨d, hd⟩ | ⟨hd, hv'⟩
    · rw [hd, hu ⟨d, hd⟩]
      unfold valB
      rw [ho, Option.map_some, Option.getD_some]
      unfold valO
      rw [hd]
      exact tmps_put_same (by rw [h.tmps]; have := (regionOkB_dst hok ho hd).1; omega)
    · rw [hd, hv']; rfl
  have hlive : ∀ k, k ≠ i → liveAt die (L.setIfInBounds i true) k → liveAt die L k ∧ die k ≠ i := by
    intro k hki hl
    have h1 : die k ≠ i := by
      intro e
      have := hl.2
      rw [e, getD_set_same hLi] at this
      cases this
    exact ⟨⟨by have := hl.1; rwa [getD_set_other hki] at this, by have := hl.2; rwa [getD_set_other h1] at this⟩, h1⟩
  have hfar : ∀ k, k < ops.size → liveAt die L k → die k ≠ i → ∀ g ∈ bl al k (valB ops a k), some g ≠ row := by
    intro k hk hl hdk g hgk e
    obtain ⟨k0, hk0, hl0, ho0, hd0, hm⟩ := hrow g e.symm
    exact h.apart k0 k hk0 hk (fun e => hdk (by rw [← e]; exact hd0)) hl0 hl ho0 g hgk hm
  refine ⟨by rw [Array.size_setIfInBounds]; exact h.size, ?_, ?_, fun t ht => ?_, ?_, ?_, fun k hk hl => ?_, fun k j hk hj hkj hlk hlj hok' => ?_⟩
  · rw [← h.defers]; cases o.dst <;> rfl
  · rw [← h.tmps]; cases o.dst <;> simp [Act.put]
  · have : (a.put o.dst u).tmps.getD t undef = a.tmps.getD t undef := by
      rcases hdst with ⟨d, hd⟩ | ⟨hd, _⟩
      · rw [hd]; exact tmps_put_other (fun e => ht i hi o ho (by rw [hd, e]))
      · rw [hd]; rfl
    rw [this]
    exact h.frame t ht
  · exact grown_trans h.old hg (.inr fun g e => by
      obtain ⟨k0, hk0, hl0, ho0, _, hm⟩ := hrow g e
      exact (h.item k0 hk0 hl0).2.2 ho0 g hm)
  · intro j oj hj hlj e he hbe
    by_cases hji : j = i
    · subst hji
      rw [ho] at hj; cases hj
      have h5 := regionOkB_back hok j o ho e he hbe
      rw [getD_set_other (by omega)]
      exact hpre e he hbe
    · rw [getD_set_other hji] at hlj
      have h6 := h.closed j oj hj hlj e he hbe
      by_cases hei : e.on = i
      · rw [hei]; exact getD_set_same hLi false
      · rw [getD_set_other hei]; exact h6
  · by_cases hki : k = i
    · subst hki
      rw [hvi]
      refine ⟨hv, hlt, fun hoi g hgm => ?_⟩
      rcases hnew g hgm with h1 | ⟨k0, hk0, hl0, ho0, _, hm⟩ | ⟨h1, _⟩
      · have := h.old.size; omega
      · exact (h.item k0 hk0 hl0).2.2 ho0 g hm
      · rw [h1] at hoi; cases hoi
    · obtain ⟨hl', hdk⟩ := hlive k hki hl
      rw [hval k hk hki hl'.1]
      obtain ⟨h1, h2, h3⟩ := h.item k hk hl'
      exact ⟨hF k _ _ _ _ h1 hg (hfar k hk hl' hdk), fun g e => Nat.lt_of_lt_of_le (h2 g e) hg.size, h3⟩
  · by_cases hki : k = i
    · subst hki
      have hji : j ≠ k := Ne.symm hkj
      obtain ⟨hlj', hdj⟩ := hlive j hji hlj
      rw [hvi, hval j hj hji hlj'.1]
      intro g hgj hgk
      rcases hnew g hgk with h1 | ⟨k0, hk0, hl0, ho0, hd0, hm⟩ | ⟨h1, _⟩
      · have := (h.item j hj hlj').2.1 g hgj; omega
      · exact h.apart k0 j hk0 hj (fun e => hdj (by rw [← e]; exact hd0)) hl0 hlj' ho0 g hgj hm
      · rw [h1] at hok'; cases hok'
    · obtain ⟨hlk', hdk⟩ := hlive k hki hlk
      rw [hval k hk hki hlk'.1]
      by_cases hji : j = i
      · subst hji
        rw [hvi]
        intro g hgj hgk
        rcases hnew g hgj with h1 | ⟨k0, hk0, hl0, ho0, hd0, hm⟩ | ⟨_, h1⟩
        · have := (h.item k hk hlk').2.1 g hgk; omega
        · exact h.apart k0 k hk0 hk (fun e => hdk (by rw [← e]; exact hd0)) hl0 hlk' ho0 g hgk hm
        · have := (h.item k hk hlk').2.2 hok' g hgk; omega
      · obtain ⟨hlj', hdj⟩ := hlive j hji hlj
        rw [hval j hj hji hlj'.1]
        exact h.apart k j hk hj hkj hlk' hlj' hok'

theorem repb_start : RepB al ops die own F a0 W (Array.replicate ops.size false) a0 { W with drawn := W.drawn + 1 } := by
  have hf : ∀ k, (Array.replicate ops.size false).getD k false = false := fun k => by
    simp only [Array.getD, Array.size_replicate]
    split <;> simp
  have hno : ∀ k, ¬ liveAt die (Array.replicate ops.size false) k := fun k hk => by rw [liveAt, hf] at hk; cases hk.1
  exact ⟨by simp, rfl, rfl, fun _ _ => rfl, grown_drew (grown_refl _ _), (fun j o _ hl => by rw [hf] at hl; cases hl), fun k _ hl => absurd hl (hno k), fun k j _ _ _ hl => absurd hl (hno k)⟩
theorem repb_frame {N : Nat} {S : Nat → Bool} (hok : regionOkB ops N S = true) {L : Array Bool} {a : Act} {w : World} (h : RepB al ops die own F a0 W L a w) :
    a = { tmps := (fill S (fun t => a.tmps.getD t undef) 0 a0.tmps.toList).toArray, defers := a0.defers } :=
  frame_fill S h.defers h.tmps fun t ht => h.frame t fun k _ o ho e => by
    have := (regionOkB_dst hok ho e).2.1
    rw [ht] at this
    cases this
variable {P : Program}
/-- The region: its head walked once an operation, its tail in order. -/
theorem wp_region_inv {I : Array Bool → Act → World → Prop} {l : List Oper} (n : Nat) {id : Nat} {Q : Exit → Act → World → Prop} (hm : P.follows .mixedOrders = true) (hn : n ≤ l.length)
    (hs : n < l.length → Region.sinkB .any l.toArray n = true) (hc : n < l.length → Region.chainB .any l.toArray n = true) (hq : Region.seqB .any l.toArray (l.length - n) n (Array.replicate n true ++ Array.replicate (l.length - n) false) = true)
    (hb : ∀ (k : Nat) (o : Oper), (l.take n).toArray[k]? = some o → ∀ e ∈ o.after, Region.binds .any e = true → e.on < k)
    (hsize : ∀ L a w, I L a w → L.size = n) (hstart : I (Array.replicate n false) a0 { W with drawn := W.drawn + 1 })
    (hstep : ∀ (i : Nat) (o : Oper) (L : Array Bool) (a : Act) (w : World) (K : Act → World → Prop), i < n → (l.take n).toArray[i]? = some o → I L a w → L.getD i false = false →
      (∀ e ∈ o.after, Region.binds .any e = true → L.getD e.on false = true) → (∀ a' w', I (L.setIfInBounds i true) a' w' → K a' w') →
      Region.wanted o (yielded l.toArray a.tmps) = true ∧ Oper.wp P o a w K Q)
    (hend : ∀ (L : Array Bool) (a : Act) (w : World), (∀ k, k < n → L.getD k false = true) → I L a w → wpList P l.toArray Q (l.drop n) a w) :
    (Code.region id l.toArray true).wp P Q a0 W := by
  refine wp_region_any hm ?_
  obtain ⟨m, hm'⟩ : ∃ m, m = l.length - n := ⟨_, rfl⟩
  have hsz : (l.take n).toArray.size = n := by simp; omega
  have hget : ∀ k, k < n → l.toArray[k]? = (l.take n).toArray[k]? := fun k hk => by
    rw [List.getElem?_toArray, List.getElem?_toArray, List.getElem?_take_of_lt hk]
  have main : ∀ (c : Nat) (L : Array Bool) (a : Act) (w : World), L.toList.count false = c → I L a w →
      (∀ j o, (l.take n).toArray[j]? = some o → L.getD j false = true → ∀ e ∈ o.after, Region.binds .any e = true → L.getD e.on false = true) → wpAny P .any l.toArray Q (c + m) (L ++ Array.replicate m false) a w := by
    intro c
    induction c with
    | zero =>
      intro L a w hcn hrep _
      have hLs : L.size = n := hsize L a w hrep
      have hall : ∀ k, k < n → L.getD k false = true := by
        intro k hk
        have hk' : k < L.size := by omega
        rw [List.count_eq_zero] at hcn
        cases hb : L.getD k false with
        | true => rfl
        | false =>
          exfalso
          apply hcn
          have : L[k] = false := by simpa [Array.getD, hk'] using hb
          rw [← this]
          exact Array.getElem_mem_toList hk'
      have hL : L = Array.replicate n true := by
        apply Array.ext (by simpa using hLs)
        intro i h1 h2
        have := hall i (by omega)
        simp only [Array.getD, h1, dif_pos] at this
        simpa using this
      have hw := wpAny_of_seq (P := P) (md := .any) (ops := l.toArray) (Q' := Q) (l.drop n) n (L ++ Array.replicate m false) a w (fun j => by simp [List.getElem?_drop]) (by rw [List.length_drop, hL, hm']; exact hq) (hend L a w hall hrep)
      rw [List.length_drop, ← hm'] at hw
      simpa using hw
    | succ c ih =>
      intro L a w hcn hrep hcl
      have hLs : L.size = n := hsize L a w hrep
      have hNs : n + m = l.length := by omega
      -- one is not listed yet
      obtain ⟨k0, hk0, hk0f⟩ : ∃ k, k < n ∧ L.getD k false = false := by
        have : 0 < L.toList.count false := by omega
        rw [List.count_pos_iff] at this
        obtain ⟨k, hk, e⟩ := List.getElem_of_mem this
        have hk' : k < L.size := by simpa using hk
        exact ⟨k, by omega, by simpa [Array.getD, hk'] using e⟩
      have inv : HeadInv .any l.toArray n (L ++ Array.replicate m false) := by
        refine ⟨by simp; omega, fun j oj hj hlj e he hbe => ?_, fun t ht htl => padded_hi hLs ht (by simp at htl; omega) _⟩
        have hjl : j < l.length := by simpa using (Array.getElem?_eq_some_iff.1 hj).1
        by_cases hjn : j < n
        · rw [padded_lo hLs hjn] at hlj
          rw [hget j hjn] at hj
          have h1 := hcl j oj hj hlj e he hbe
          have h2 := hb j oj hj e he hbe
          rw [padded_lo hLs (by omega)]
          exact h1
        · rw [padded_hi hLs (by omega) (by omega)] at hlj; cases hlj
      have hwait : ∀ t, n ≤ t → t ∉ Region.ready .any l.toArray (L ++ Array.replicate m false) := by
        rcases Nat.lt_or_eq_of_le hn with hlt | heq
        · exact tail_waits (hs hlt) (hc hlt) (by simpa using hlt) inv _ k0 rfl hk0 (by rw [padded_lo hLs hk0, getD_in (by omega) true false]; exact hk0f)
        · intro t ht hm
          have h1 := (mem_ready_iff.1 hm).1
          have h2 : t < l.length := by simpa using h1
          omega
      have hmem : ∀ i, i ∈ Region.ready .any l.toArray (L ++ Array.replicate m false) → i < n ∧ L.getD i false = false ∧ ∃ o, (l.take n).toArray[i]? = some o ∧ ∀ e ∈ o.after, Region.binds .any e = true → L.getD e.on false = true := by
        intro i hi
        have hin : i < n := by
          by_cases h : i < n
          · exact h
          · exact absurd hi (hwait i (by omega))
        obtain ⟨_, h2, o, ho, h3⟩ := mem_ready_iff.1 hi
        rw [padded_lo hLs hin, getD_in (by omega) true false] at h2
        rw [hget i hin] at ho
        refine ⟨hin, h2, o, ho, fun e he hbe => ?_⟩
        have h4 := h3 e he hbe
        have h5 := hb i o ho e he hbe
        rwa [padded_lo hLs (by omega)] at h4
      rw [show c + 1 + m = (c + m) + 1 by omega]
      refine ⟨fun hr => ?_, fun i hi => ?_⟩
      · exfalso
        -- the first one that is not listed may come up
        have hex : ∀ k, k < n → L.getD k false = true := by
          intro k
          induction k using Nat.strongRecOn with
          | ind k ihk =>
            intro hk
            cases hbk : L.getD k false with
            | true => rfl
            | false =>
              exfalso
              have hk2 : k < (l.take n).toArray.size := by omega
              have hko : l.toArray[k]? = some (l.take n).toArray[k] := by rw [hget k hk]; exact Array.getElem?_eq_getElem hk2
              have : k ∈ Region.ready .any l.toArray (L ++ Array.replicate m false) := mem_ready_iff.2 ⟨by simp; omega, by rw [padded_lo hLs hk, getD_in (by omega) true false]; exact hbk, (l.take n).toArray[k], hko, fun e he hbe => by
                have h5 := hb k _ (Array.getElem?_eq_getElem hk2) e he hbe
                rw [padded_lo hLs (by omega)]
                exact ihk e.on h5 (by omega)⟩
              rw [hr] at this
              cases this
        have := hex k0 hk0
        rw [hk0f] at this
        cases this
      · obtain ⟨hin, h2, o, ho, h3⟩ := hmem i hi
        have hiL : i < L.size := by omega
        refine wpOp_step (by rw [hget i hin]; exact ho) fun K hK => ?_
        obtain ⟨hw, hwp⟩ := hstep i o L a w K hin ho hrep h2 h3 (fun a' w' hr => hK a' w' (by
          rw [padded_set hLs hin]
          refine ih _ _ _ ?_ hr ?_
          · have hLi : L[i] = false := by simpa [Array.getD, hiL] using h2
            have := List.count_set (l := L.toList) (i := i) (a := true) (b := false) (by simpa using hiL)
            simp only [Array.toList_setIfInBounds]
            have e : L.toList[i]'(by simpa using hiL) = false := by simpa using hLi
            rw [this, e, if_pos (show (false == false) = true from rfl), if_neg (show ¬ ((true == false) = true) by decide)]
            omega
          · intro j oj hj hlj e he hbe
            by_cases hji : j = i
            · subst hji
              rw [ho] at hj
              cases hj
              have h5 := hb j o ho e he hbe
              rw [getD_set_other (by omega)]
              exact h3 e he hbe
            · rw [getD_set_other hji] at hlj
              have h6 := hcl j oj hj hlj e he hbe
              by_cases hei : e.on = i
              · rw [hei]; exact getD_set_same hiL false
              · rw [getD_set_other hei]; exact h6))
        rw [if_pos hw]
        exact hwp
  have := main n (Array.replicate n false) a0 { W with drawn := W.drawn + 1 } (by simp) hstart (fun j o _ hl => by
    rw [getD_replicate_false] at hl; cases hl)
  rw [show n + m = l.toArray.size by simp; omega] at this
  rw [show Array.replicate l.toArray.size false = Array.replicate n false ++ Array.replicate m false by rw [Array.replicate_append_replicate]; congr 1; simp; omega]
  exact this


/-- Where a step's new value may lie. -/
def FreshB (al own : Nat → Bool) (W : World) (i : Nat) (w : World) (from_ : Nat → Prop) (v : Value) : Prop := ∀ g ∈ bl al i v, w.heap.size ≤ g ∨ from_ g ∨ (own i = false ∧ g < W.heap.size)
theorem FreshB.none {al own : Nat → Bool} {W : World} {i : Nat} {w : World} {p : Nat → Prop} {v : Value} (h : bl al i v = []) : FreshB al own W i w p v := nobl h
theorem FreshB.old {al own : Nat → Bool} {W : World} {i : Nat} {w : World} {p : Nat → Prop} {v : Value} (ho : own i = false) (h : ∀ g ∈ bl al i v, g < W.heap.size) : FreshB al own W i w p v := fun g hg => .inr (.inr ⟨ho, h g hg⟩)
theorem FreshB.new {al own : Nat → Bool} {W : World} {i : Nat} {w : World} {p : Nat → Prop} {v : Value} (h : ∀ g ∈ bl al i v, w.heap.size ≤ g) : FreshB al own W i w p v := fun g hg => .inl (h g hg)

theorem wp_region_gb {l : List Oper} (n : Nat) {N : Nat} {S : Nat → Bool} {id : Nat} {Q : Exit → Act → World → Prop} (hm : P.follows .mixedOrders = true) (hn : n ≤ l.length)
    (hs : n < l.length → Region.sinkB .any l.toArray n = true) (hc : n < l.length → Region.chainB .any l.toArray n = true) (hsq : Region.seqB .any l.toArray (l.length - n) n (Array.replicate n true ++ Array.replicate (l.length - n) false) = true)
    (hok : regionOkB (l.take n).toArray N S = true) (hN : N ≤ a0.tmps.size) (hF : ∀ k, LastsB al k (F k))
    (hstep : ∀ (i : Nat) (o : Oper) (L : Array Bool) (a : Act) (w : World) (K : Act → World → Prop), i < n → (l.take n).toArray[i]? = some o → W.grownBy w none → L.getD i false = false → (∀ k, n ≤ k → L.getD k false = false) →
      (∀ j, (o.after.toList.any fun e => Region.binds .any e && e.on == j) = true → L.getD j false = true) →
      (∀ t, S t = false → a.eval (.tmp t) = a0.eval (.tmp t)) →
      (∀ k, k < n → liveAt die L k → F k (valB (l.take n).toArray a k) w) →
      ((∃ d, o.dst = some d) → ∀ (v : Value) (w' : World), w.grownBy w' none → F i v w' → (∀ g ∈ bl al i v, g < w'.heap.size) → FreshB al own W i w (fun _ => False) v → K (a.put o.dst v) w') →
      ((∃ d, o.dst = some d) → ∀ (k : Nat) (v : Value) (w' : World) (row : Option Nat), k < n → liveAt die L k → own k = true → die k = i → w.grownBy w' row → (∀ g, row = some g → g ∈ bl al k (valB (l.take n).toArray a k)) →
        F i v w' → (∀ g ∈ bl al i v, g < w'.heap.size) → FreshB al own W i w (fun g => g ∈ bl al k (valB (l.take n).toArray a k)) v → K (a.put o.dst v) w') →
      (o.dst = none → ∀ (k : Nat) (u : Value) (w' : World) (row : Option Nat), k < n → liveAt die L k → own k = true → die k = i → w.grownBy w' row → (∀ g, row = some g → g ∈ bl al k (valB (l.take n).toArray a k)) →
        F i (valB (l.take n).toArray a i) w' → (∀ g ∈ bl al i (valB (l.take n).toArray a i), g ∈ bl al k (valB (l.take n).toArray a k)) → K (a.put o.dst u) w') →
      Region.wanted o (yielded l.toArray a.tmps) = true ∧ Oper.wp P o a w K Q)
    (hend : ∀ (a : Act) (w : World), W.grownBy w none →
      (∀ k, k < n → n ≤ die k → F k (valB (l.take n).toArray a k) w ∧ (own k = true → ∀ g ∈ bl al k (valB (l.take n).toArray a k), W.heap.size ≤ g)) →
      (∀ k j, k < n → j < n → k ≠ j → n ≤ die k → n ≤ die j → own k = true → ∀ g ∈ bl al j (valB (l.take n).toArray a j), g ∉ bl al k (valB (l.take n).toArray a k)) →
      a = { tmps := (fill S (fun t => a.tmps.getD t undef) 0 a0.tmps.toList).toArray, defers := a0.defers } → wpList P l.toArray Q (l.drop n) a w) :
    (Code.region id l.toArray true).wp P Q a0 W := by
  have hsz : (l.take n).toArray.size = n := by simp; omega
  refine wp_region_inv (I := RepB al (l.take n).toArray die own F a0 W) n hm hn hs hc hsq (regionOkB_back hok) (fun L a w h => by rw [h.size, hsz]) (by have := repb_start (al := al) (ops := (l.take n).toArray) (die := die) (own := own) (F := F) (a0 := a0) (W := W); rwa [hsz] at this) ?_ ?_
  · intro i o L a w K hi ho hrep hLi hpre hK
    have hout : ∀ k : Nat, n ≤ k → L.getD k false = false := by
      intro k hk
      have hk' : ¬ k < L.size := by rw [hrep.size]; omega
      simp [Array.getD, hk']
    refine hstep i o L a w K hi ho hrep.old hLi hout ?_ ?_ ?_ ?_ ?_ ?_
    · intro j hj
      obtain ⟨n', hn', hb, rfl⟩ : ∃ (n : Nat) (h : n < o.after.size), Region.binds Region.Mode.any o.after[n] = true ∧ o.after[n].on = j := by simpa using hj
      exact hpre _ (Array.getElem_mem hn') hb
    · intro t ht
      exact hrep.frame t fun k _ o' ho' e => by
        have := (regionOkB_dst hok ho' e).2.1
        rw [ht] at this
        cases this
    · intro k hk hl
      exact (hrep.item k (by omega) hl).1
    · intro hd v w' hg hv hlt hnew
      exact hK _ _ (repb_step hok hN hF hrep (by omega) hLi ho hpre hg (.inl hd) (fun g e => by cases e) hv hlt (fun g hgm => (hnew g hgm).imp (fun x => x) fun h => .inr (h.resolve_left (fun x => x))) v (fun _ => rfl))
    · intro hd k v w' row hk hl hok' hdk hg hrow hv hlt hnew
      exact hK _ _ (repb_step hok hN hF hrep (by omega) hLi ho hpre hg (.inl hd) (fun g e => ⟨k, by omega, hl, hok', hdk, hrow g e⟩) hv hlt (fun g hgm => (hnew g hgm).imp (fun x => x) fun h => h.imp (fun h => ⟨k, by omega, hl, hok', hdk, h⟩) (fun x => x)) v (fun _ => rfl))
    · intro hd k u w' row hk hl hok' hdk hg hrow hv hsub
      exact hK _ _ (repb_step hok hN hF hrep (by omega) hLi ho hpre hg (.inr ⟨hd, rfl⟩) (fun g e => ⟨k, by omega, hl, hok', hdk, hrow g e⟩) hv (fun g hgm => Nat.lt_of_lt_of_le ((hrep.item k (by omega) hl).2.1 g (hsub g hgm)) hg.size) (fun g hgm => .inr (.inl ⟨k, by omega, hl, hok', hdk, hsub g hgm⟩)) u (fun h => by obtain ⟨d, h⟩ := h; rw [hd] at h; cases h))
  · intro L a w hl hrep
    have hlive : ∀ k, k < n → n ≤ die k → liveAt die L k := fun k hk hd => ⟨hl k hk, by
      have : ¬ die k < L.size := by rw [hrep.size]; omega
      simp [Array.getD, this]⟩
    exact hend a w hrep.old (fun k hk hd => ⟨(hrep.item k (by omega) (hlive k hk hd)).1, (hrep.item k (by omega) (hlive k hk hd)).2.2⟩)
      (fun k j hk hj hkj hdk hdj hok => hrep.apart k j (by omega) (by omega) hkj (hlive k hk hdk) (hlive j hj hdj) hok) (repb_frame hok hrep)
end
end Go.Proofs.YtpeepiboocdnaaaDoor

namespace Go.Proofs.YtpeepiboocdnaaaDoor
open Go.RowKit

/-- A signature's value, its parts read as f and g. -/
def SigAt (f g : Nat → List UInt8) (v : Value) (w : World) : Prop := ∃ g1 c1 g2 c2 : Nat, v = .agg #[.slice (some ⟨g1, 0, none⟩) 32 c1, .slice (some ⟨g2, 0, none⟩) 32 c2] ∧ 32 ≤ c1 ∧ c1 ≤ maxLen ∧ 32 ≤ c2 ∧ c2 ≤ maxLen ∧ RdB w (some ⟨g1, 0, none⟩) (partsF f 32) ∧ RdB w (some ⟨g2, 0, none⟩) (partsF g 32)
theorem LastsB.sig {al : Nat → Bool} {k : Nat} (ha : al k = false) (f g : Nat → List UInt8) : LastsB al k (SigAt f g) := by
  rintro v w w' row ⟨g1, c1, g2, c2, rfl, h1, h2, h3, h4, h5, h6⟩ hg hne
  have e : bl al k (.agg #[.slice (some ⟨g1, 0, none⟩) 32 c1, .slice (some ⟨g2, 0, none⟩) 32 c2]) = [g1, g2] := by simp [bl, ha, blocksOf, sliceBlocks]
  rw [e] at hne
  exact ⟨g1, c1, g2, c2, rfl, h1, h2, h3, h4, h5.keep hg (fun ad e => by cases e; exact hne g1 (by simp)), h6.keep hg (fun ad e => by cases e; exact hne g2 (by simp))⟩
theorem SigAt.kept {f g : Nat → List UInt8} {v : Value} {w w' : World} (h : SigAt f g v w) (hg : w.grownBy w' none) : SigAt f g v w' := by
  obtain ⟨g1, c1, g2, c2, e, h1, h2, h3, h4, h5, h6⟩ := h
  exact ⟨g1, c1, g2, c2, e, h1, h2, h3, h4, h5.kept hg, h6.kept hg⟩
theorem lt_of_part {w : World} {g : Nat} {f : Nat → List UInt8} (hf : ∀ i, (f i).length = 32) (h : RdB w (some ⟨g, 0, none⟩) (partsF f 32)) : g < w.heap.size := by
  have h1 := range_part hf h (k := 0) (by omega) 0 (bv ((f 0)[0]'(by rw [hf]; omega))) (by rw [List.getElem?_map, List.getElem?_eq_getElem (by rw [hf]; omega)]; rfl)
  exact World.block_lt_of_cell? w _ h1
theorem sig_of {s m : List UInt8} {w : World} {e : Ending} {w' : World} (h : ∃ g1 c1 g2 c2 : Nat, e = .returned (.agg #[.slice (some ⟨g1, 0, none⟩) 32 c1, .slice (some ⟨g2, 0, none⟩) 32 c2]) ∧ 32 ≤ c1 ∧ c1 ≤ maxLen ∧ 32 ≤ c2 ∧ c2 ≤ maxLen ∧ RdB w' (some ⟨g1, 0, none⟩) (partsF (openF s m) 32) ∧ RdB w' (some ⟨g2, 0, none⟩) (partsF (shutF s m) 32) ∧ w.grownBy w' none ∧ w.heap.size ≤ g1 ∧ w.heap.size ≤ g2) :
    ∃ v, e = .returned v ∧ SigAt (openF s m) (shutF s m) v w' ∧ w.grownBy w' none ∧ (∀ g ∈ blocksOf v, w.heap.size ≤ g) ∧ ∀ g ∈ blocksOf v, g < w'.heap.size := by
  obtain ⟨g1, c1, g2, c2, rfl, h1, h2, h3, h4, h5, h6, h7, h8, h9⟩ := h
  have e : blocksOf (.agg #[.slice (some ⟨g1, 0, none⟩) 32 c1, .slice (some ⟨g2, 0, none⟩) 32 c2]) = [g1, g2] := rfl
  refine ⟨_, rfl, ⟨g1, c1, g2, c2, rfl, h1, h2, h3, h4, h5, h6⟩, h7, ?_, ?_⟩
  · rw [e]; intro g hg
    simp only [List.mem_cons, List.not_mem_nil, or_false] at hg
    rcases hg with rfl | rfl <;> assumption
  · rw [e]; intro g hg
    simp only [List.mem_cons, List.not_mem_nil, or_false] at hg
    rcases hg with rfl | rfl
    · exact lt_of_part (openF_len s m) h5
    · exact lt_of_part (shutF_len s m) h6
/-- A row of parts is no small variable's block. -/
theorem part_ne {w : World} {g b : Nat} {f : Nat → List UInt8} (hf : ∀ i, (f i).length = 32) (h : RdB w (some ⟨g, 0, none⟩) (partsF f 32)) {C : Array Value} {t : TypeId} {fr : Nat × Nat} (hb : w.heap[b]? = some (.cells C t fr)) (hC : C.size ≤ 32) : g ≠ b := by
  rintro rfl
  have h1 := range_part hf h (k := 31) (by omega) 0 (bv ((f 31)[0]'(by rw [hf]; omega))) (by rw [List.getElem?_map, List.getElem?_eq_getElem (by rw [hf]; omega)]; rfl)
  rw [cell_of_row w g _ C t fr hb, Array.getElem?_eq_none (by omega)] at h1
  cases h1
theorem RdB.keepRow {w w' : World} {g b : Nat} {l : List UInt8} (h : RdB w (some ⟨g, 0, none⟩) l) (hg : w.grownBy w' (some b)) (hne : g ≠ b) : RdB w' (some ⟨g, 0, none⟩) l := h.keep hg (fun ad e => by cases e; simpa using hne)
theorem new_lt (w : World) (o : Obj) : ∀ g ∈ [w.heap.size], g < (w.alloc o).heap.size := by simp
theorem new_ge (w : World) : ∀ g ∈ [w.heap.size], w.heap.size ≤ g := by simp
theorem one_two (A1 A2 : Option Addr) (n1 c1 n2 c2 : Nat) : (#[Value.slice A1 n1 c1, Value.slice A2 n2 c2] : Array Value).all (·.oneCell') = true := by simp [Value.oneCell']
theorem tuple_two {a b c d : Value} (h : Value.tuple #[a, b] = .tuple #[c, d]) : a = c ∧ b = d := by
  injection h with h
  simpa using h
theorem wanted_not {ops : Array Oper} {o : Oper} {a : Act} {j s : Nat} (hg : o.guard = some (j, false)) (hd : (ops[j]?).bind (·.dst) = some s) (hv : a.eval (.tmp s) = .bool false) : Region.wanted o (yielded ops a.tmps) = true := by
  have h : a.tmps.getD s undef = .bool false := hv
  have h' : a.tmps[s]? = some (.bool false) := by
    by_cases hs : s < a.tmps.size
    · simp [Array.getD, hs] at h
      rw [Array.getElem?_eq_getElem hs, h]
    · simp [Array.getD, hs] at h
      cases h
  simp [Region.wanted, hg, yielded, hd, h']
theorem index_hs (g n c k : Nat) (hk : k < n) (w : World) : (Instr.indexAt 39 (.slice (some ⟨g, 0, none⟩) n c) (.int .i64 (k : Int))).run Tryd.prog w = .ok (.pointer (some ⟨g, k * 32, none⟩)) w := by
  have h := run_indexAt_slice (P := Tryd.prog) (w := w) 39 ⟨g, 0, none⟩ n c .i64 (k : Int) (by kernel_rfl)
  rw [h, if_pos ⟨by omega, by omega⟩, show (sizeOf (Tryd.prog.elem 39)).run Tryd.prog w = .ok 32 w from by kernel_rfl, Result.andThen_ok, Int.toNat_natCast, Addr.add_mid, Nat.zero_add]
theorem wp_index {P : Program} {o : Oper} {a : Act} {w : World} {K : Act → World → Prop} {Q : Exit → Act → World → Prop} {t : TypeId} {x y : Operand} {xv yv v : Value} (ho : o.op = .indexAddr t x y) (hx : a.eval x = xv) (hy : a.eval y = yv) (hrun : (Instr.indexAt t xv yv).run P w = .ok v w) (h : K (a.put o.dst v) w) : Oper.wp P o a w K Q := by
  unfold Oper.wp execOp
  simp only [ho, hx, hy, Sem.run_bind, hrun, Result.andThen_ok, Sem.run_pure]
  exact h
end Go.Proofs.YtpeepiboocdnaaaDoor
