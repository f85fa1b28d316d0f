/- A region that draws its order: operations in any order (calls, literals, variables made and written), and behind them a tail in a forced order. Each operation's value may lie in several blocks. -/
import Derived.Test.YtmfnncfiaaeknaaDoorRegT
namespace Go.Proofs.YtmfnncfiaaeknaaDoor
open Go.RowKit

/-- The blocks that a value's slices lie in. -/
def sliceBlocks : List Value → List Nat
  | [] => []
  | .slice (some a) _ _ :: r => a.block :: sliceBlocks r
  | _ :: r => sliceBlocks r
def blocksOf : Value → List Nat
  | .slice (some a) _ _ => [a.block]
  | .agg cs => sliceBlocks cs.toList
  | _ => []
/-- The blocks of operation k's value: a variable's, if it makes or writes one. -/
def ptrsOf : Value → List Nat
  | .pointer (some a) => [a.block]
  | .tuple cs => (match cs.toList with | .pointer (some a) :: _ => [a.block] | _ => [])
  | _ => []
def bl (al : Nat → Bool) (k : Nat) (v : Value) : List Nat := bif al k then ptrsOf v else blocksOf v
theorem blocks_bytes (l : List UInt8) : blocksOf (.agg (l.map bv).toArray) = [] := by
  show sliceBlocks (l.map bv) = []
  induction l with
  | nil => rfl
  | cons x l ih => exact ih
theorem nobl {x : List Nat} {p : Nat → Prop} (h : x = []) : ∀ g ∈ x, p g := fun g e => by rw [h] at e; cases e
def LastsB (al : Nat → Bool) (k : Nat) (F : Value → World → Prop) : Prop := ∀ v w w' row, F v w → w.grownBy w' row → (∀ g ∈ bl al k v, some g ≠ row) → F v w'
theorem LastsB.val {al : Nat → Bool} {k : Nat} (c : Value) : LastsB al k fun v _ => v = c := fun _ _ _ _ h _ _ => h
theorem LastsB.made {al : Nat → Bool} {k : Nat} (ha : al k = true) (Z : Array Value) (t : TypeId) : LastsB al k (Made Z t) := by
  rintro v w w' row ⟨b, rfl, h⟩ hg hne
  exact ⟨b, rfl, other_block h hg (hne b (by simp [bl, ha, ptrsOf]))⟩
theorem LastsB.of {al : Nat → Bool} {k : Nat} {F : Value → World → Prop} (ha : al k = false) (h : Lasts F) : LastsB al k F := fun v w w' row hf hg hne => h v w w' row hf hg (by
  cases v with
  | slice A n c =>
    cases A with
    | none => exact .inl rfl
    | some ad => exact .inr (hne ad.block (by simp [bl, ha, blocksOf]))
  | _ => exact .inl rfl)

/-- A variable written: its address, and what was written. -/
def Stored (t : TypeId) (v : Value) (w : World) : Prop := ∃ b cs, v = .tuple #[.pointer (some ⟨b, 0, none⟩), .agg cs] ∧ w.heap[b]? = some (.cells cs t (0, 0))
theorem LastsB.stored {al : Nat → Bool} {k : Nat} (ha : al k = true) (t : TypeId) : LastsB al k (Stored t) := by
  rintro v w w' row ⟨b, cs, rfl, h⟩ hg hne
  exact ⟨b, cs, rfl, other_block h hg (hne b (by simp [bl, ha, ptrsOf]))⟩

/-- The slots that an operation's item looks at: what it yields; or the address and the value of a store. -/
def operandSlot : Operand → List Nat
  | .tmp x => [x]
  | _ => []
def slotsOf (o : Oper) : List Nat := match o.dst with
  | some d => [d]
  | none => match o.op with | .store _ x y => operandSlot x ++ operandSlot y | _ => []
def slotsB (ops : Array Oper) (k : Nat) : List Nat := (ops[k]?.map slotsOf).getD []
def valO (o : Oper) (a : Act) : Value := match o.dst with
  | some d => a.tmps.getD d undef
  | none => match o.op with | .store _ x y => .tuple #[a.eval x, a.eval y] | _ => undef
def valB (ops : Array Oper) (a : Act) (k : Nat) : Value := (ops[k]?.map fun o => valO o a).getD undef
theorem eval_put {a : Act} {d : Nat} {v : Value} {x : Operand} (h : d ∉ operandSlot x) : (a.put (some d) v).eval x = a.eval x := by
  cases x with
  | tmp t =>
    have : t ≠ d := fun e => h (by simp [operandSlot, e])
    exact tmps_put_other this
  | _ => rfl
theorem valO_put {o : Oper} {a : Act} {d : Nat} {v : Value} (h : d ∉ slotsOf o) : valO o (a.put (some d) v) = valO o a := by
  unfold slotsOf at h
  unfold valO
  cases hd : o.dst with
  | some d' =>
    rw [hd] at h
    simp only [List.mem_singleton] at h
    exact tmps_put_other (Ne.symm h)
  | none =>
    rw [hd] at h
    cases ho : o.op with
    | store t x y =>
      rw [ho] at h
      simp only [List.mem_append, not_or] at h
      simp only [eval_put h.1, eval_put h.2]
    | _ => rfl

section
variable {al : Nat → Bool} {ops : Array Oper} {die : Nat → Nat} {own : Nat → Bool} {F : Nat → Value → World → Prop} {a0 : Act} {W : World}
structure RepB (al : Nat → Bool) (ops : Array Oper) (die : Nat → Nat) (own : Nat → Bool) (F : Nat → Value → World → Prop) (a0 : Act) (W : World) (L : Array Bool) (a : Act) (w : World) : Prop where
  size : L.size = ops.size
  defers : a.defers = a0.defers
  tmps : a.tmps.size = a0.tmps.size
  frame : ∀ t, (∀ k, k < ops.size → ∀ o, ops[k]? = some o → o.dst ≠ some t) → a.tmps.getD t undef = a0.tmps.getD t undef
  old : W.grownBy w none
  closed : ∀ j o, ops[j]? = some o → L.getD j false = true → ∀ e ∈ o.after, Region.binds .any e = true → L.getD e.on false = true
  item : ∀ k, k < ops.size → liveAt die L k → F k (valB ops a k) w ∧ (∀ g ∈ bl al k (valB ops a k), g < w.heap.size) ∧ (own k = true → ∀ g ∈ bl al k (valB ops a k), W.heap.size ≤ g)
  apart : ∀ k j, k < ops.size → j < ops.size → k ≠ j → liveAt die L k → liveAt die L j → own k = true → ∀ g ∈ bl al j (valB ops a j), g ∉ bl al k (valB ops a k)

/-- What the kernel can see of a region's text. -/
def edgeB (ops : Array Oper) (k j : Nat) : Bool := ((ops[k]?).map fun o => o.dst.isNone && o.after.any fun e => Region.binds .any e && e.on == j).getD false
def regionOkB (ops : Array Oper) (N : Nat) (S : Nat → Bool) : Bool :=
  (List.range ops.size).all fun k => ((ops[k]?).map fun o => (o.after.all fun e => !(Region.binds .any e) || decide (e.on < k)) && (match o.dst with | some d => decide (d < N) && S d && (List.range ops.size).all (fun j => k == j || !(slotsB ops j).contains d || edgeB ops j k) | none => true)).getD false
theorem regionOkB_back {N : Nat} {S : Nat → Bool} (h : regionOkB ops N S = true) : ∀ (k : Nat) (o : Oper), ops[k]? = some o → ∀ e ∈ o.after, Region.binds .any e = true → e.on < k := by
  intro k o ho e he hbe
  have hk : k < ops.size := (Array.getElem?_eq_some_iff.1 ho).1
  simp only [regionOkB, List.all_eq_true, List.mem_range] at h
  have h1 := h k hk
  simp only [ho, Option.map_some, Option.getD_some, Bool.and_eq_true, Array.all_eq_true_iff_forall_mem] at h1
  have := h1.1 e he
  simpa [hbe] using this
theorem regionOkB_dst {N : Nat} {S : Nat → Bool} (h : regionOkB ops N S = true) {k : Nat} {o : Oper} (ho : ops[k]? = some o) {d : Nat} (hd : o.dst = some d) : d < N ∧ S d = true ∧ ∀ j, j < ops.size → j ≠ k → d ∈ slotsB ops j → edgeB ops j k = true := by
  have hk : k < ops.size := (Array.getElem?_eq_some_iff.1 ho).1
  simp only [regionOkB, List.all_eq_true, List.mem_range] at h
  have h1 := h k hk
  simp only [ho, hd, Option.map_some, Option.getD_some, Bool.and_eq_true, decide_eq_true_eq, List.all_eq_true, List.mem_range] at h1
  refine ⟨h1.2.1.1, h1.2.1.2, fun j hj hjk hm => ?_⟩
  have h2 := h1.2.2 j hj
  simp only [Bool.or_eq_true, beq_iff_eq, Bool.not_eq_true', List.contains_eq_mem, decide_eq_false_iff_not] at h2
  rcases h2 with (h2 | h2) | h2
  · exact absurd h2.symm hjk
  · exact absurd hm h2
  · exact h2
theorem edgeB_spec {k j : Nat} (h : edgeB ops k j = true) : ∃ o, ops[k]? = some o ∧ o.dst = none ∧ ∃ e ∈ o.after, Region.binds .any e = true ∧ e.on = j := by
  unfold edgeB at h
  cases ho : ops[k]? with
  | none => rw [ho] at h; simp at h
  | some o =>
    rw [ho] at h
    simp only [Option.map_some, Option.getD_some, Bool.and_eq_true, Option.isNone_iff_eq_none] at h
    obtain ⟨i, hi, h2⟩ := Array.any_eq_true.1 h.2
    simp only [Bool.and_eq_true, beq_iff_eq] at h2
    exact ⟨o, rfl, h.1, _, Array.getElem_mem hi, h2.1, h2.2⟩

theorem repb_step {N : Nat} {S : Nat → Bool} (hok : regionOkB ops N S = true) (hN : N ≤ a0.tmps.size) (hF : ∀ k, LastsB al k (F k)) {L : Array Bool} {a : Act} {w : World} (h : RepB al ops die own F a0 W L a w) {i : Nat} (hi : i < ops.size) (hLf : L.getD i false = false)
    {o : Oper} (ho : ops[i]? = some o) (hpre : ∀ e ∈ o.after, Region.binds .any e = true → L.getD e.on false = true) {v : Value} {w' : World} {row : Option Nat} (hg : w.grownBy w' row)
    (hdst : (∃ d, o.dst = some d) ∨ (o.dst = none ∧ v = valB ops a i))
    (hrow : ∀ g, row = some g → ∃ k, k < ops.size ∧ liveAt die L k ∧ own k = true ∧ die k = i ∧ g ∈ bl al k (valB ops a k))
    (hv : F i v w') (hlt : ∀ g ∈ bl al i v, g < w'.heap.size)
    (hnew : ∀ g ∈ bl al i v, w.heap.size ≤ g ∨ (∃ k, k < ops.size ∧ liveAt die L k ∧ own k = true ∧ die k = i ∧ g ∈ bl al k (valB ops a k)) ∨ (own i = false ∧ g < W.heap.size)) (u : Value) (hu : (∃ d, o.dst = some d) → u = v) :
    RepB al ops die own F a0 W (L.setIfInBounds i true) (a.put o.dst u) w' := by
  have hLi : i < L.size := by rw [h.size]; exact hi
  -- another item's value stays, if it is live
  have hval : ∀ k, k < ops.size → k ≠ i → L.getD k false = true → valB ops (a.put o.dst u) k = valB ops a k := by
    intro k hk hki hkl
    rcases hdst with ⟨d, hd⟩ | ⟨hd, _⟩
    · rw [hd]
      unfold valB
      rw [Array.getElem?_eq_getElem hk, Option.map_some, Option.map_some, Option.getD_some, Option.getD_some]
      refine valO_put fun hm => ?_
      have hm' : d ∈ slotsB ops k := by unfold slotsB; rw [Array.getElem?_eq_getElem hk]; exact hm
      obtain ⟨o', ho', _, e', he', hb, hon⟩ := edgeB_spec ((regionOkB_dst hok ho hd).2.2 k hk hki hm')
      have := h.closed k o' ho' hkl e' he' hb
      rw [hon, hLf] at this
      cases this
    · rw [hd]; rfl
  have hvi : valB ops (a.put o.dst u) i = v := by
    rcases hdst with ⟨d, hd⟩ | ⟨hd, hv'⟩
    · rw [hd, hu ⟨d, hd⟩]
      unfold valB
      rw [ho, Option.map_some, Option.getD_some]
      unfold valO
      rw [hd]
      exact tmps_put_same (by rw [h.tmps]; have := (regionOkB_dst hok ho hd).1; omega)
    · rw [hd, hv']; rfl
  have hlive : ∀ k, k ≠ i → liveAt die (L.setIfInBounds i true) k → liveAt die L k ∧ die k ≠ i := by
    intro k hki hl
    have h1 : die k ≠ i := by
      intro e
      have := hl.2
      rw [e, getD_set_same hLi] at this
      cases this
    exact ⟨⟨by have := hl.1; rwa [getD_set_other hki] at this, by have := hl.2; rwa [getD_set_other h1] at this⟩, h1⟩
  have hfar : ∀ k, k < ops.size → liveAt die L k → die k ≠ i → ∀ g ∈ bl al k (valB ops a k), some g ≠ row := by
    intro k hk hl hdk g hgk e
    obtain ⟨k0, hk0, hl0, ho0, hd0, hm⟩ := hrow g e.symm
    exact h.apart k0 k hk0 hk (fun e => hdk (by rw [← e]; exact hd0)) hl0 hl ho0 g hgk hm
  refine ⟨by rw [Array.size_setIfInBounds]; exact h.size, ?_, ?_, fun t ht => ?_, ?_, ?_, fun k hk hl => ?_, fun k j hk hj hkj hlk hlj hok' => ?_⟩
  · rw [← h.defers]; cases o.dst <;> rfl
  · rw [← h.tmps]; cases o.dst <;> simp [Act.put]
  · have : (a.put o.dst u).tmps.getD t undef = a.tmps.getD t undef := by
      rcases hdst with ⟨d, hd⟩ | ⟨hd, _⟩
      · rw [hd]; exact tmps_put_other (fun e => ht i hi o ho (by rw [hd, e]))
      · rw [hd]; rfl
    rw [this]
    exact h.frame t ht
  · exact grown_trans h.old hg (.inr fun g e => by
      obtain ⟨k0, hk0, hl0, ho0, _, hm⟩ := hrow g e
      exact (h.item k0 hk0 hl0).2.2 ho0 g hm)
  · intro j oj hj hlj e he hbe
    by_cases hji : j = i
    · subst hji
      rw [ho] at hj; cases hj
      have h5 := regionOkB_back hok j o ho e he hbe
      rw [getD_set_other (by omega)]
      exact hpre e he hbe
    · rw [getD_set_other hji] at hlj
      have h6 := h.closed j oj hj hlj e he hbe
      by_cases hei : e.on = i
      · rw [hei]; exact getD_set_same hLi false
      · rw [getD_set_other hei]; exact h6
  · by_cases hki : k = i
    · subst hki
      rw [hvi]
      refine ⟨hv, hlt, fun hoi g hgm => ?_⟩
      rcases hnew g hgm with h1 | ⟨k0, hk0, hl0, ho0, _, hm⟩ | ⟨h1, _⟩
      · have := h.old.size; omega
      · exact (h.item k0 hk0 hl0).2.2 ho0 g hm
      · rw [h1] at hoi; cases hoi
    · obtain ⟨hl', hdk⟩ := hlive k hki hl
      rw [hval k hk hki hl'.1]
      obtain ⟨h1, h2, h3⟩ := h.item k hk hl'
      exact ⟨hF k _ _ _ _ h1 hg (hfar k hk hl' hdk), fun g e => Nat.lt_of_lt_of_le (h2 g e) hg.size, h3⟩
  · by_cases hki : k = i
    · subst hki
      have hji : j ≠ k := Ne.symm hkj
      obtain ⟨hlj', hdj⟩ := hlive j hji hlj
      rw [hvi, hval j hj hji hlj'.1]
      intro g hgj hgk
      rcases hnew g hgk with h1 | ⟨k0, hk0, hl0, ho0, hd0, hm⟩ | ⟨h1, _⟩
      · have := (h.item j hj hlj').2.1 g hgj; omega
      · exact h.apart k0 j hk0 hj (fun e => hdj (by rw [← e]; exact hd0)) hl0 hlj' ho0 g hgj hm
      · rw [h1] at hok'; cases hok'
    · obtain ⟨hlk', hdk⟩ := hlive k hki hlk
      rw [hval k hk hki hlk'.1]
      by_cases hji : j = i
      · subst hji
        rw [hvi]
        intro g hgj hgk
        rcases hnew g hgj with h1 | ⟨k0, hk0, hl0, ho0, hd0, hm⟩ | ⟨_, h1⟩
        · have := (h.item k hk hlk').2.1 g hgk; omega
        · exact h.apart k0 k hk0 hk (fun e => hdk (by rw [← e]; exact hd0)) hl0 hlk' ho0 g hgk hm
        · have := (h.item k hk hlk').2.2 hok' g hgk; omega
      · obtain ⟨hlj', hdj⟩ := hlive j hji hlj
        rw [hval j hj hji hlj'.1]
        exact h.apart k j hk hj hkj hlk' hlj' hok'

theorem repb_start : RepB al ops die own F a0 W (Array.replicate ops.size false) a0 { W with drawn := W.drawn + 1 } := by
  have hf : ∀ k, (Array.replicate ops.size false).getD k false = false := fun k => by
    simp only [Array.getD, Array.size_replicate]
    split <;> simp
  have hno : ∀ k, ¬ liveAt die (Array.replicate ops.size false) k := fun k hk => by rw [liveAt, hf] at hk; cases hk.1
  exact ⟨by simp, rfl, rfl, fun _ _ => rfl, grown_drew (grown_refl _ _), (fun j o _ hl => by rw [hf] at hl; cases hl), fun k _ hl => absurd hl (hno k), fun k j _ _ _ hl => absurd hl (hno k)⟩
theorem repb_frame {N : Nat} {S : Nat → Bool} (hok : regionOkB ops N S = true) {L : Array Bool} {a : Act} {w : World} (h : RepB al ops die own F a0 W L a w) :
    a = { tmps := (fill S (fun t => a.tmps.getD t undef) 0 a0.tmps.toList).toArray, defers := a0.defers } :=
  frame_fill S h.defers h.tmps fun t ht => h.frame t fun k _ o ho e => by
    have := (regionOkB_dst hok ho e).2.1
    rw [ht] at this
    cases this
variable {P : Program}
/-- The region: its head walked once an operation, its tail in order. -/
theorem wp_region_inv {I : Array Bool → Act → World → Prop} {l : List Oper} (n : Nat) {id : Nat} {Q : Exit → Act → World → Prop} (hm : P.follows .mixedOrders = true) (hn : n ≤ l.length)
    (hs : n < l.length → Region.sinkB .any l.toArray n = true) (hc : n < l.length → Region.chainB .any l.toArray n = true) (hq : Region.seqB .any l.toArray (l.length - n) n (Array.replicate n true ++ Array.replicate (l.length - n) false) = true)
    (hb : ∀ (k : Nat) (o : Oper), (l.take n).toArray[k]? = some o → ∀ e ∈ o.after, Region.binds .any e = true → e.on < k)
    (hsize : ∀ L a w, I L a w → L.size = n) (hstart : I (Array.replicate n false) a0 { W with drawn := W.drawn + 1 })
    (hstep : ∀ (i : Nat) (o : Oper) (L : Array Bool) (a : Act) (w : World) (K : Act → World → Prop), i < n → (l.take n).toArray[i]? = some o → I L a w → L.getD i false = false →
      (∀ e ∈ o.after, Region.binds .any e = true → L.getD e.on false = true) → (∀ a' w', I (L.setIfInBounds i true) a' w' → K a' w') →
      Region.wanted o (yielded l.toArray a.tmps) = true ∧ Oper.wp P o a w K Q)
    (hend : ∀ (L : Array Bool) (a : Act) (w : World), (∀ k, k < n → L.getD k false = true) → I L a w → wpList P l.toArray Q (l.drop n) a w) :
    (Code.region id l.toArray true).wp P Q a0 W := by
  refine wp_region_any hm ?_
  obtain ⟨m, hm'⟩ : ∃ m, m = l.length - n := ⟨_, rfl⟩
  have hsz : (l.take n).toArray.size = n := by simp; omega
  have hget : ∀ k, k < n → l.toArray[k]? = (l.take n).toArray[k]? := fun k hk => by
    rw [List.getElem?_toArray, List.getElem?_toArray, List.getElem?_take_of_lt hk]
  have main : ∀ (c : Nat) (L : Array Bool) (a : Act) (w : World), L.toList.count false = c → I L a w →
      (∀ j o, (l.take n).toArray[j]? = some o → L.getD j false = true → ∀ e ∈ o.after, Region.binds .any e = true → L.getD e.on false = true) → wpAny P .any l.toArray Q (c + m) (L ++ Array.replicate m false) a w := by
    intro c
    induction c with
    | zero =>
      intro L a w hcn hrep _
      have hLs : L.size = n := hsize L a w hrep
      have hall : ∀ k, k < n → L.getD k false = true := by
        intro k hk
        have hk' : k < L.size := by omega
        rw [List.count_eq_zero] at hcn
        cases hb : L.getD k false with
        | true => rfl
        | false =>
          exfalso
          apply hcn
          have : L[k] = false := by simpa [Array.getD, hk'] using hb
          rw [← this]
          exact Array.getElem_mem_toList hk'
      have hL : L = Array.replicate n true := by
        apply Array.ext (by simpa using hLs)
        intro i h1 h2
        have := hall i (by omega)
        simp only [Array.getD, h1, dif_pos] at this
        simpa using this
      have hw := wpAny_of_seq (P := P) (md := .any) (ops := l.toArray) (Q' := Q) (l.drop n) n (L ++ Array.replicate m false) a w (fun j => by simp [List.getElem?_drop]) (by rw [List.length_drop, hL, hm']; exact hq) (hend L a w hall hrep)
      rw [List.length_drop, ← hm'] at hw
      simpa using hw
    | succ c ih =>
      intro L a w hcn hrep hcl
      have hLs : L.size = n := hsize L a w hrep
      have hNs : n + m = l.length := by omega
      -- one is not listed yet
      obtain ⟨k0, hk0, hk0f⟩ : ∃ k, k < n ∧ L.getD k false = false := by
        have : 0 < L.toList.count false := by omega
        rw [List.count_pos_iff] at this
        obtain ⟨k, hk, e⟩ := List.getElem_of_mem this
        have hk' : k < L.size := by simpa using hk
        exact ⟨k, by omega, by simpa [Array.getD, hk'] using e⟩
      have inv : HeadInv .any l.toArray n (L ++ Array.replicate m false) := by
        refine ⟨by simp; omega, fun j oj hj hlj e he hbe => ?_, fun t ht htl => padded_hi hLs ht (by simp at htl; omega) _⟩
        have hjl : j < l.length := by simpa using (Array.getElem?_eq_some_iff.1 hj).1
        by_cases hjn : j < n
        · rw [padded_lo hLs hjn] at hlj
          rw [hget j hjn] at hj
          have h1 := hcl j oj hj hlj e he hbe
          have h2 := hb j oj hj e he hbe
          rw [padded_lo hLs (by omega)]
          exact h1
        · rw [padded_hi hLs (by omega) (by omega)] at hlj; cases hlj
      have hwait : ∀ t, n ≤ t → t ∉ Region.ready .any l.toArray (L ++ Array.replicate m false) := by
        rcases Nat.lt_or_eq_of_le hn with hlt | heq
        · exact tail_waits (hs hlt) (hc hlt) (by simpa using hlt) inv _ k0 rfl hk0 (by rw [padded_lo hLs hk0, getD_in (by omega) true false]; exact hk0f)
        · intro t ht hm
          have h1 := (mem_ready_iff.1 hm).1
          have h2 : t < l.length := by simpa using h1
          omega
      have hmem : ∀ i, i ∈ Region.ready .any l.toArray (L ++ Array.replicate m false) → i < n ∧ L.getD i false = false ∧ ∃ o, (l.take n).toArray[i]? = some o ∧ ∀ e ∈ o.after, Region.binds .any e = true → L.getD e.on false = true := by
        intro i hi
        have hin : i < n := by
          by_cases h : i < n
          · exact h
          · exact absurd hi (hwait i (by omega))
        obtain ⟨_, h2, o, ho, h3⟩ := mem_ready_iff.1 hi
        rw [padded_lo hLs hin, getD_in (by omega) true false] at h2
        rw [hget i hin] at ho
        refine ⟨hin, h2, o, ho, fun e he hbe => ?_⟩
        have h4 := h3 e he hbe
        have h5 := hb i o ho e he hbe
        rwa [padded_lo hLs (by omega)] at h4
      rw [show c + 1 + m = (c + m) + 1 by omega]
      refine ⟨fun hr => ?_, fun i hi => ?_⟩
      · exfalso
        -- the first one that is not listed may come up
        have hex : ∀ k, k < n → L.getD k false = true := by
          intro k
          induction k using Nat.strongRecOn with
          | ind k ihk =>
            intro hk
            cases hbk : L.getD k false with
            | true => rfl
            | false =>
              exfalso
              have hk2 : k < (l.take n).toArray.size := by omega
              have hko : l.toArray[k]? = some (l.take n).toArray[k] := by rw [hget k hk]; exact Array.getElem?_eq_getElem hk2
              have : k ∈ Region.ready .any l.toArray (L ++ Array.replicate m false) := mem_ready_iff.2 ⟨by simp; omega, by rw [padded_lo hLs hk, getD_in (by omega) true false]; exact hbk, (l.take n).toArray[k], hko, fun e he hbe => by
                have h5 := hb k _ (Array.getElem?_eq_getElem hk2) e he hbe
                rw [padded_lo hLs (by omega)]
                exact ihk e.on h5 (by omega)⟩
              rw [hr] at this
              cases this
        have := hex k0 hk0
        rw [hk0f] at this
        cases this
      · obtain ⟨hin, h2, o, ho, h3⟩ := hmem i hi
        have hiL : i < L.size := by omega
        refine wpOp_step (by rw [hget i hin]; exact ho) fun K hK => ?_
        obtain ⟨hw, hwp⟩ := hstep i o L a w K hin ho hrep h2 h3 (fun a' w' hr => hK a' w' (by
          rw [padded_set hLs hin]
          refine ih _ _ _ ?_ hr ?_
          · have hLi : L[i] = false := by simpa [Array.getD, hiL] using h2
            have := List.count_set (l := L.toList) (i := i) (a := true) (b := false) (by simpa using hiL)
            simp only [Array.toList_setIfInBounds]
            have e : L.toList[i]'(by simpa using hiL) = false := by simpa using hLi
            rw [this, e, if_pos (show (false == false) = true from rfl), if_neg (show ¬ ((true == false) = true) by decide)]
            omega
          · intro j oj hj hlj e he hbe
            by_cases hji : j = i
            · subst hji
              rw [ho] at hj
              cases hj
              have h5 := hb j o ho e he hbe
              rw [getD_set_other (by omega)]
              exact h3 e he hbe
            · rw [getD_set_other hji] at hlj
              have h6 := hcl j oj hj hlj e he hbe
              by_cases hei : e.on = i
              · rw [hei]; exact getD_set_same hiL false
              · rw [getD_set_other hei]; exact h6))
        rw [if_pos hw]
        exact hwp
  have := main n (Array.replicate n false) a0 { W with drawn := W.drawn + 1 } (by simp) hstart (fun j o _ hl => by
    rw [getD_replicate_false] at hl; cases hl)
  rw [show n + m = l.toArray.size by simp; omega] at this
  rw [show Array.replicate l.toArray.size false = Array.replicate n false ++ Array.replicate m false by rw [Array.replicate_append_replicate]; congr 1; simp; omega]
  exact this


/-- Where a step's new value may lie. -/
def FreshB (al own : Nat → Bool) (W : World) (i : Nat) (w : World) (from_ : Nat → Prop) (v : Value) : Prop := ∀ g ∈ bl al i v, w.heap.size ≤ g ∨ from_ g ∨ (own i = false ∧ g < W.heap.size)
theorem FreshB.none {al own : Nat → Bool} {W : World} {i : Nat} {w : World} {p : Nat → Prop} {v : Value} (h : bl al i v = []) : FreshB al own W i w p v := nobl h
theorem FreshB.old {al own : Nat → Bool} {W : World} {i : Nat} {w : World} {p : Nat → Prop} {v : Value} (ho : own i = false) (h : ∀ g ∈ bl al i v, g < W.heap.size) : FreshB al own W i w p v := fun g hg => .inr (.inr ⟨ho, h g hg⟩)
theorem FreshB.new {al own : Nat → Bool} {W : World} {i : Nat} {w : World} {p : Nat → Prop} {v : Value} (h : ∀ g ∈ bl al i v, w.heap.size ≤ g) : FreshB al own W i w p v := fun g hg => .inl (h g hg)

theorem wp_region_gb {l : List Oper} (n : Nat) {N : Nat} {S : Nat → Bool} {id : Nat} {Q : Exit → Act → World → Prop} (hm : P.follows .mixedOrders = true) (hn : n ≤ l.length)
    (hs : n < l.length → Region.sinkB .any l.toArray n = true) (hc : n < l.length → Region.chainB .any l.toArray n = true) (hsq : Region.seqB .any l.toArray (l.length - n) n (Array.replicate n true ++ Array.replicate (l.length - n) false) = true)
    (hok : regionOkB (l.take n).toArray N S = true) (hN : N ≤ a0.tmps.size) (hF : ∀ k, LastsB al k (F k))
    (hstep : ∀ (i : Nat) (o : Oper) (L : Array Bool) (a : Act) (w : World) (K : Act → World → Prop), i < n → (l.take n).toArray[i]? = some o → W.grownBy w none → L.getD i false = false → (∀ k, n ≤ k → L.getD k false = false) →
      (∀ j, (o.after.toList.any fun e => Region.binds .any e && e.on == j) = true → L.getD j false = true) →
      (∀ t, S t = false → a.eval (.tmp t) = a0.eval (.tmp t)) →
      (∀ k, k < n → liveAt die L k → F k (valB (l.take n).toArray a k) w) →
      ((∃ d, o.dst = some d) → ∀ (v : Value) (w' : World), w.grownBy w' none → F i v w' → (∀ g ∈ bl al i v, g < w'.heap.size) → FreshB al own W i w (fun _ => False) v → K (a.put o.dst v) w') →
      ((∃ d, o.dst = some d) → ∀ (k : Nat) (v : Value) (w' : World) (row : Option Nat), k < n → liveAt die L k → own k = true → die k = i → w.grownBy w' row → (∀ g, row = some g → g ∈ bl al k (valB (l.take n).toArray a k)) →
        F i v w' → (∀ g ∈ bl al i v, g < w'.heap.size) → FreshB al own W i w (fun g => g ∈ bl al k (valB (l.take n).toArray a k)) v → K (a.put o.dst v) w') →
      (o.dst = none → ∀ (k : Nat) (u : Value) (w' : World) (row : Option Nat), k < n → liveAt die L k → own k = true → die k = i → w.grownBy w' row → (∀ g, row = some g → g ∈ bl al k (valB (l.take n).toArray a k)) →
        F i (valB (l.take n).toArray a i) w' → (∀ g ∈ bl al i (valB (l.take n).toArray a i), g ∈ bl al k (valB (l.take n).toArray a k)) → K (a.put o.dst u) w') →
      Region.wanted o (yielded l.toArray a.tmps) = true ∧ Oper.wp P o a w K Q)
    (hend : ∀ (a : Act) (w : World), W.grownBy w none →
      (∀ k, k < n → n ≤ die k → F k (valB (l.take n).toArray a k) w ∧ (own k = true → ∀ g ∈ bl al k (valB (l.take n).toArray a k), W.heap.size ≤ g)) →
      (∀ k j, k < n → j < n → k ≠ j → n ≤ die k → n ≤ die j → own k = true → ∀ g ∈ bl al j (valB (l.take n).toArray a j), g ∉ bl al k (valB (l.take n).toArray a k)) →
      a = { tmps := (fill S (fun t => a.tmps.getD t undef) 0 a0.tmps.toList).toArray, defers := a0.defers } → wpList P l.toArray Q (l.drop n) a w) :
    (Code.region id l.toArray true).wp P Q a0 W := by
  have hsz : (l.take n).toArray.size = n := by simp; omega
  refine wp_region_inv (I := RepB al (l.take n).toArray die own F a0 W) n hm hn hs hc hsq (regionOkB_back hok) (fun L a w h => by rw [h.size, hsz]) (by have := repb_start (al := al) (ops := (l.take n).toArray) (die := die) (own := own) (F := F) (a0 := a0) (W := W); rwa [hsz] at this) ?_ ?_
  · intro i o L a w K hi ho hrep hLi hpre hK
    have hout : ∀ k : Nat, n ≤ k → L.getD k false = false := by
      intro k hk
      have hk' : ¬ k < L.size := by rw [hrep.size]; omega
      simp [Array.getD, hk']
    refine hstep i o L a w K hi ho hrep.old hLi hout ?_ ?_ ?_ ?_ ?_ ?_
    · intro j hj
      obtain ⟨n', hn', hb, rfl⟩ : ∃ (n : Nat) (h : n < o.after.size), Region.binds Region.Mode.any o.after[n] = true ∧ o.after[n].on = j := by simpa using hj
      exact hpre _ (Array.getElem_mem hn') hb
    · intro t ht
      exact hrep.frame t fun k _ o' ho' e => by
        have := (regionOkB_dst hok ho' e).2.1
        rw [ht] at this
        cases this
    · intro k hk hl
      exact (hrep.item k (by omega) hl).1
    · intro hd v w' hg hv hlt hnew
      exact hK _ _ (repb_step hok hN hF hrep (by omega) hLi ho hpre hg (.inl hd) (fun g e => by cases e) hv hlt (fun g hgm => (hnew g hgm).imp (fun x => x) fun h => .inr (h.resolve_left (fun x => x))) v (fun _ => rfl))
    · intro hd k v w' row hk hl hok' hdk hg hrow hv hlt hnew
      exact hK _ _ (repb_step hok hN hF hrep (by omega) hLi ho hpre hg (.inl hd) (fun g e => ⟨k, by omega, hl, hok', hdk, hrow g e⟩) hv hlt (fun g hgm => (hnew g hgm).imp (fun x => x) fun h => h.imp (fun h => ⟨k, by omega, hl, hok', hdk, h⟩) (fun x => x)) v (fun _ => rfl))
    · intro hd k u w' row hk hl hok' hdk hg hrow hv hsub
      exact hK _ _ (repb_step hok hN hF hrep (by omega) hLi ho hpre hg (.inr ⟨hd, rfl⟩) (fun g e => ⟨k, by omega, hl, hok', hdk, hrow g e⟩) hv (fun g hgm => Nat.lt_of_lt_of_le ((hrep.item k (by omega) hl).2.1 g (hsub g hgm)) hg.size) (fun g hgm => .inr (.inl ⟨k, by omega, hl, hok', hdk, hsub g hgm⟩)) u (fun h => by obtain ⟨d, h⟩ := h; rw [hd] at h; cases h))
  · intro L a w hl hrep
    have hlive : ∀ k, k < n → n ≤ die k → liveAt die L k := fun k hk hd => ⟨hl k hk, by
      have : ¬ die k < L.size := by rw [hrep.size]; omega
      simp [Array.getD, this]⟩
    exact hend a w hrep.old (fun k hk hd => ⟨(hrep.item k (by omega) (hlive k hk hd)).1, (hrep.item k (by omega) (hlive k hk hd)).2.2⟩)
      (fun k j hk hj hkj hdk hdj hok => hrep.apart k j (by omega) (by omega) hkj (hlive k hk hdk) (hlive j hj hdj) hok) (repb_frame hok hrep)
end
end Go.Proofs.YtmfnncfiaaeknaaDoor
