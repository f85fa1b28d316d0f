/- A region that draws its order: operations in any order (calls, literals, variables made), and behind them a tail in a forced order (stores, appends, assignments). -/
import Derived.Test.YtmfnncfiaaeknaaDoorOpsG
import Derived.Test.YtmfnncfiaaeknaaDoorLamR
import Derived.StillTail
namespace Go.Proofs.YtmfnncfiaaeknaaDoor
open Go.RowKit

/-- The block that operation k's value lies in: a variable's, if it makes one; else a slice's. -/
def ptrBlock : Value → Option Nat
  | .pointer (some a) => some a.block
  | _ => none
def bk (al : Nat → Bool) (k : Nat) (v : Value) : Option Nat := bif al k then ptrBlock v else v.ownBlock
theorem nob {x : Option Nat} {p : Nat → Prop} (h : x = none) : ∀ g, x = some g → p g := fun g e => by rw [h] at e; cases e
/-- A fact on operation k's value lasts; q: in this region no row is written while the head is walked. -/
def LastsK (al : Nat → Bool) (q : Bool) (k : Nat) (F : Value → World → Prop) : Prop := ∀ v w w' row, F v w → w.grownBy w' row → (q = true → row = none) → (bk al k v = none ∨ bk al k v ≠ row) → F v w'
theorem LastsK.of {al : Nat → Bool} {q : Bool} {k : Nat} {F : Value → World → Prop} (ha : al k = false) (h : Lasts F) : LastsK al q k F := fun v w w' row hf hg _ hne => h v w w' row hf hg (by simpa [bk, ha] using hne)
theorem LastsK.calm {al : Nat → Bool} {k : Nat} {F : Value → World → Prop} (h : ∀ v w w', F v w → w.grownBy w' none → F v w') : LastsK al true k F := fun v w w' row hf hg hq _ => by
  have := hq rfl
  subst this
  exact h v w w' hf hg
theorem LastsK.val {al : Nat → Bool} {q : Bool} {k : Nat} (c : Value) : LastsK al q k fun v _ => v = c := fun _ _ _ _ h _ _ _ => h
/-- A variable made: its block. -/
def Made (Z : Array Value) (t : TypeId) (v : Value) (w : World) : Prop := ∃ b, v = .pointer (some ⟨b, 0, none⟩) ∧ w.heap[b]? = some (.cells Z t (0, 0))
theorem LastsK.made {al : Nat → Bool} {q : Bool} {k : Nat} (ha : al k = true) (Z : Array Value) (t : TypeId) : LastsK al q k (Made Z t) := by
  rintro v w w' row ⟨b, rfl, h⟩ hg _ hne
  refine ⟨b, rfl, other_block h hg ?_⟩
  rcases hne with h1 | h1
  · simp [bk, ha, ptrBlock] at h1
  · simpa [bk, ha, ptrBlock] using h1

section
variable (R : Option Nat) (i1 : Nat) (al : Nat → Bool) (q : Bool) (ops : Array Oper) (die : Nat → Nat) (own : Nat → Bool) (F : Nat → Value → World → Prop) (a0 : Act) (W : World)

/-- What stands at every moment of the head: L says which operations have been done. -/
structure RepT (L : Array Bool) (a : Act) (w : World) : Prop where
  size : L.size = ops.size
  defers : a.defers = a0.defers
  tmps : a.tmps.size = a0.tmps.size
  frame : ∀ t, (∀ k, k < ops.size → slotOf ops k ≠ t) → a.tmps.getD t undef = a0.tmps.getD t undef
  old : W.grownBy w R
  oldN : L.getD i1 false = false → W.grownBy w none
  item : ∀ k, k < ops.size → liveAt die L k → F k (valOf ops a k) w ∧ (∀ g, bk al k (valOf ops a k) = some g → g < w.heap.size) ∧ (own k = true → ∀ g, bk al k (valOf ops a k) = some g → W.heap.size ≤ g ∨ some g = R)
  virgin : L.getD i1 false = false → ∀ k, k < ops.size → liveAt die L k → bk al k (valOf ops a k) = none ∨ bk al k (valOf ops a k) ≠ R
  apart : ∀ k j, k < ops.size → j < ops.size → k ≠ j → liveAt die L k → liveAt die L j → own k = true → bk al j (valOf ops a j) = none ∨ bk al j (valOf ops a j) ≠ bk al k (valOf ops a k)

variable {R i1 al q ops die own F a0 W}
theorem rept_step (hR : ∀ g, R = some g → g < W.heap.size) (hF : ∀ k, LastsK al q k (F k)) {L : Array Bool} {a : Act} {w : World} (h : RepT R i1 al ops die own F a0 W L a w) {i : Nat} (hi : i < ops.size) (hLf : L.getD i false = false) {o : Oper} (ho : ops[i]? = some o) {d : Nat} (hd : o.dst = some d)
    (hinj : ∀ k, k < ops.size → k ≠ i → slotOf ops k ≠ d) (hdn : d < a0.tmps.size) {v : Value} {w' : World} {row : Option Nat} (hg : w.grownBy w' row)
    (hrow : row = none ∨ ∃ k, k < ops.size ∧ liveAt die L k ∧ own k = true ∧ die k = i ∧ row = (bk al k (valOf ops a k)))
    (hq0 : q = true → row = none) (hv : F i v w') (hlt : ∀ g, (bk al i v) = some g → g < w'.heap.size)
    (hnew : (bk al i v) = none ∨ (∃ g, (bk al i v) = some g ∧ w.heap.size ≤ g) ∨ (bk al i v) = row ∨ (own i = false ∧ ∃ g, (bk al i v) = some g ∧ g < W.heap.size ∧ some g ≠ R) ∨ (i = i1 ∧ (bk al i v) = R)) :
    RepT R i1 al ops die own F a0 W (L.setIfInBounds i true) (a.put o.dst v) w' := by
  have hsi : slotOf ops i = d := by simp [slotOf, ho, hd]
  rw [hd]
  have hLi : i < L.size := by rw [h.size]; exact hi
  have hval : ∀ k, k < ops.size → k ≠ i → valOf ops (a.put (some d) v) k = valOf ops a k := fun k hk hki => tmps_put_other (hinj k hk hki)
  have hvi : valOf ops (a.put (some d) v) i = v := by
    unfold valOf; rw [hsi]; exact tmps_put_same (by rw [h.tmps]; exact hdn)
  have hlive : ∀ k, k ≠ i → liveAt die (L.setIfInBounds i true) k → liveAt die L k ∧ die k ≠ i := by
    intro k hki hl
    have h1 : die k ≠ i := by
      intro e
      have := hl.2
      rw [e, getD_set_same hLi] at this
      cases this
    exact ⟨⟨by have := hl.1; rwa [getD_set_other hki] at this, by have := hl.2; rwa [getD_set_other h1] at this⟩, h1⟩
  have hfar : ∀ k, k < ops.size → liveAt die L k → die k ≠ i → (bk al k (valOf ops a k)) = none ∨ (bk al k (valOf ops a k)) ≠ row := by
    intro k hk hl hdk
    rcases hrow with rfl | ⟨k0, hk0, hl0, ho0, hd0, rfl⟩
    · cases (bk al k (valOf ops a k)) <;> simp
    · exact h.apart k0 k hk0 hk (fun e => hdk (by rw [← e]; exact hd0)) hl0 hl ho0
  have hold : W.grownBy w' R := by
    refine grown_trans h.old hg ?_
    rcases hrow with rfl | ⟨k0, hk0, hl0, ho0, hd0, rfl⟩
    · exact .inr fun g e => by cases e
    · by_cases e : bk al k0 (valOf ops a k0) = R
      · exact .inl e
      · refine .inr fun g eg => ?_
        rcases (h.item k0 hk0 hl0).2.2 ho0 g eg with h1 | h1
        · exact h1
        · exact absurd (eg.trans h1) e
  have hvW : own i = true → ∀ g, (bk al i v) = some g → W.heap.size ≤ g ∨ some g = R := by
    intro hoi g e
    rcases hnew with e1 | ⟨g', e1, hg'⟩ | e1 | ⟨e1, _⟩ | ⟨_, e1⟩
    · rw [e1] at e; cases e
    · rw [e1] at e; injection e with e; have := h.old.size; exact .inl (by omega)
    · rcases hrow with rfl | ⟨k0, hk0, hl0, ho0, hd0, rfl⟩
      · rw [e1] at e; cases e
      · exact (h.item k0 hk0 hl0).2.2 ho0 g (by rw [← e1]; exact e)
    · rw [e1] at hoi; cases hoi
    · exact .inr (by rw [← e1, e])
  refine ⟨by rw [Array.size_setIfInBounds]; exact h.size, h.defers, by simp [Act.put, h.tmps], fun t ht => ?_, hold, fun hun => ?_, fun k hk hl => ?_, fun hun k hk hl => ?_, fun k j hk hj hkj hlk hlj hok => ?_⟩
  · rw [tmps_put_other (fun e => ht i hi (by rw [hsi, e]))]
    exact h.frame t ht
  · have hi1 : i1 ≠ i := by
      intro e
      rw [e, getD_set_same hLi] at hun
      cases hun
    have hun' : L.getD i1 false = false := by rwa [getD_set_other hi1] at hun
    refine grown_trans (h.oldN hun') hg ?_
    rcases hrow with rfl | ⟨k0, hk0, hl0, ho0, hd0, rfl⟩
    · exact .inl rfl
    · refine .inr fun g eg => ?_
      rcases (h.item k0 hk0 hl0).2.2 ho0 g eg with h1 | h1
      · exact h1
      · rcases h.virgin hun' k0 hk0 hl0 with h2 | h2
        · rw [h2] at eg; cases eg
        · exact absurd (eg.trans h1) h2
  · by_cases hki : k = i
    · subst hki
      rw [hvi]
      exact ⟨hv, hlt, hvW⟩
    · obtain ⟨hl', hdk⟩ := hlive k hki hl
      rw [hval k hk hki]
      obtain ⟨h1, h2, h3⟩ := h.item k hk hl'
      exact ⟨hF k _ _ _ _ h1 hg hq0 (hfar k hk hl' hdk), fun g e => Nat.lt_of_lt_of_le (h2 g e) hg.size, h3⟩
  · have hi1 : i1 ≠ i := by
      intro e
      rw [e, getD_set_same hLi] at hun
      cases hun
    have hun' : L.getD i1 false = false := by rwa [getD_set_other hi1] at hun
    by_cases hki : k = i
    · subst hki
      rw [hvi]
      rcases hnew with e1 | ⟨g', e1, hg'⟩ | e1 | ⟨_, g', e1, hg', hne⟩ | ⟨e1, _⟩
      · exact .inl e1
      · refine .inr fun e => ?_
        have h1 := hR g' (by rw [← e, e1])
        have := h.old.size
        omega
      · rcases hrow with rfl | ⟨k0, hk0, hl0, ho0, hd0, rfl⟩
        · exact .inl e1
        · rw [e1]; exact h.virgin hun' k0 hk0 hl0
      · exact .inr fun e => hne (by rw [← e1, e])
      · exact absurd e1.symm hi1
    · obtain ⟨hl', _⟩ := hlive k hki hl
      rw [hval k hk hki]
      exact h.virgin hun' k hk hl'
  · by_cases hki : k = i
    · subst hki
      have hji : j ≠ k := Ne.symm hkj
      obtain ⟨hlj', hdj⟩ := hlive j hji hlj
      rw [hvi, hval j hj hji]
      rcases hnew with e1 | ⟨g', e1, hg'⟩ | e1 | ⟨e1, _⟩ | ⟨e0, e1⟩
      · rw [e1]; cases (bk al j (valOf ops a j)) <;> simp
      · rw [e1]
        cases hb : (bk al j (valOf ops a j)) with
        | none => exact .inl rfl
        | some b => exact .inr fun e => by injection e with e; have := (h.item j hj hlj').2.1 b hb; omega
      · rw [e1]; exact hfar j hj hlj' hdj
      · rw [e1] at hok; cases hok
      · rw [e1]; exact h.virgin (by rw [← e0]; exact hLf) j hj hlj'
    · obtain ⟨hlk', hdk⟩ := hlive k hki hlk
      rw [hval k hk hki]
      by_cases hji : j = i
      · subst hji
        rw [hvi]
        rcases hnew with e1 | ⟨g', e1, hg'⟩ | e1 | ⟨_, g', e1, hg', hgR⟩ | ⟨e0, e1⟩
        · exact .inl e1
        · refine .inr fun e => ?_
          rw [e1] at e
          have := (h.item k hk hlk').2.1 g' e.symm
          omega
        · rcases hfar k hk hlk' hdk with h1 | h1
          · cases hb : (bk al j v) with
            | none => exact .inl rfl
            | some b => exact .inr fun e => by rw [h1] at e; cases e
          · exact .inr fun e => h1 (by rw [← e, e1])
        · refine .inr fun e => ?_
          rw [e1] at e
          rcases (h.item k hk hlk').2.2 hok g' e.symm with h1 | h1
          · omega
          · exact hgR h1
        · rcases h.virgin (by rw [← e0]; exact hLf) k hk hlk' with h1 | h1
          · cases hb : (bk al j v) with
            | none => exact .inl rfl
            | some b => exact .inr fun e => by rw [h1] at e; cases e
          · exact .inr fun e => h1 (by rw [← e, e1])
      · obtain ⟨hlj', hdj⟩ := hlive j hji hlj
        rw [hval j hj hji]
        exact h.apart k j hk hj hkj hlk' hlj' hok

/-- What the kernel can see of a region's text: edges go back; every operation has a slot of its own, below N, all of them in S. -/
def regionOkT (ops : Array Oper) (N : Nat) (S : Nat → Bool) : Bool :=
  (List.range ops.size).all fun k => ((ops[k]?).map fun o => (o.after.all fun e => !(Region.binds .any e) || decide (e.on < k)) && o.dst.isSome).getD false && decide (slotOf ops k < N) && S (slotOf ops k) && (List.range ops.size).all fun j => k == j || slotOf ops k != slotOf ops j
theorem regionOkT_back {ops : Array Oper} {N : Nat} {S : Nat → Bool} (h : regionOkT ops N S = true) : ∀ (k : Nat) (o : Oper), ops[k]? = some o → ∀ e ∈ o.after, Region.binds .any e = true → e.on < k := by
  intro k o ho e he hbe
  have hk : k < ops.size := (Array.getElem?_eq_some_iff.1 ho).1
  simp only [regionOkT, List.all_eq_true, List.mem_range] at h
  have h1 := h k hk
  simp only [ho, Option.map_some, Option.getD_some, Bool.and_eq_true, Array.all_eq_true_iff_forall_mem, decide_eq_true_eq] at h1
  have := h1.1.1.1.1 e he
  simpa [hbe] using this
theorem regionOkT_slot {ops : Array Oper} {N : Nat} {S : Nat → Bool} (h : regionOkT ops N S = true) {k : Nat} (hk : k < ops.size) : slotOf ops k < N ∧ S (slotOf ops k) = true ∧ (∀ j, j < ops.size → j ≠ k → slotOf ops j ≠ slotOf ops k) ∧ ∀ o, ops[k]? = some o → o.dst = some (slotOf ops k) := by
  simp only [regionOkT, List.all_eq_true, List.mem_range] at h
  have h1 := h k hk
  simp only [Bool.and_eq_true, decide_eq_true_eq] at h1
  refine ⟨h1.1.1.2, h1.1.2, fun j hj hjk e => ?_, fun o ho => ?_⟩
  · have := h1.2
    simp only [List.all_eq_true, List.mem_range] at this
    have h2 := this j hj
    simp only [Bool.or_eq_true, beq_iff_eq, bne_iff_ne] at h2
    rcases h2 with h2 | h2
    · exact hjk h2.symm
    · exact h2 e.symm
  · have h2 := h1.1.1.1
    simp only [ho, Option.map_some, Option.getD_some, Bool.and_eq_true] at h2
    cases hd : o.dst with
    | none => rw [hd] at h2; simp at h2
    | some d => simp [slotOf, ho, hd]

/-- One step, the region's text seen by the kernel. -/
theorem rept_go {N : Nat} {S : Nat → Bool} (hok : regionOkT ops N S = true) (hN : N ≤ a0.tmps.size) (hR : ∀ g, R = some g → g < W.heap.size) (hF : ∀ k, LastsK al q k (F k)) {L : Array Bool} {a : Act} {w : World} (h : RepT R i1 al ops die own F a0 W L a w) {i : Nat} (hi : i < ops.size) (hLf : L.getD i false = false) {o : Oper} (ho : ops[i]? = some o)
    {v : Value} {w' : World} {row : Option Nat} (hg : w.grownBy w' row)
    (hrow : row = none ∨ ∃ k, k < ops.size ∧ liveAt die L k ∧ own k = true ∧ die k = i ∧ row = (bk al k (valOf ops a k)))
    (hq0 : q = true → row = none) (hv : F i v w') (hlt : ∀ g, (bk al i v) = some g → g < w'.heap.size)
    (hnew : (bk al i v) = none ∨ (∃ g, (bk al i v) = some g ∧ w.heap.size ≤ g) ∨ (bk al i v) = row ∨ (own i = false ∧ ∃ g, (bk al i v) = some g ∧ g < W.heap.size ∧ some g ≠ R) ∨ (i = i1 ∧ (bk al i v) = R)) :
    RepT R i1 al ops die own F a0 W (L.setIfInBounds i true) (a.put o.dst v) w' := by
  obtain ⟨h1, _, h3, h4⟩ := regionOkT_slot hok hi
  exact rept_step hR hF h hi hLf ho (h4 o ho) h3 (Nat.lt_of_lt_of_le h1 hN) hg hrow hq0 hv hlt hnew

theorem rept_frame {N : Nat} {S : Nat → Bool} (hok : regionOkT ops N S = true) {L : Array Bool} {a : Act} {w : World} (h : RepT R i1 al ops die own F a0 W L a w) :
    a = { tmps := (fill S (fun t => a.tmps.getD t undef) 0 a0.tmps.toList).toArray, defers := a0.defers } :=
  frame_fill S h.defers h.tmps fun t ht => h.frame t fun k hk e => by
    have := (regionOkT_slot hok hk).2.1
    rw [e, ht] at this
    cases this
theorem rept_start : RepT R i1 al ops die own F a0 W (Array.replicate ops.size false) a0 { W with drawn := W.drawn + 1 } := by
  have hno : ∀ k, ¬ liveAt die (Array.replicate ops.size false) k := fun k hk => by
    have := hk.1
    simp only [Array.getD, Array.size_replicate] at this
    split at this
    · simp at this
    · cases this
  exact ⟨by simp, rfl, rfl, fun _ _ => rfl, grown_drew (grown_refl _ _), fun _ => grown_drew (grown_refl _ _), fun k _ hl => absurd hl (hno k), fun _ k _ hl => absurd hl (hno k), fun k j _ _ _ hl => absurd hl (hno k)⟩


variable {P : Program}
theorem padded_lo {L : Array Bool} {n m k : Nat} (hs : L.size = n) (hk : k < n) (d : Bool) : (L ++ Array.replicate m false).getD k d = L.getD k d := by
  simp only [Array.getD_eq_getD_getElem?]
  rw [Array.getElem?_append_left (by omega)]
theorem padded_hi {L : Array Bool} {n m k : Nat} (hs : L.size = n) (hk : n ≤ k) (hm : k < n + m) (d : Bool) : (L ++ Array.replicate m false).getD k d = false := by
  simp only [Array.getD_eq_getD_getElem?]
  rw [Array.getElem?_append_right (by omega), Array.getElem?_replicate, if_pos (by omega)]
  rfl
theorem padded_set {L : Array Bool} {n m i : Nat} (hs : L.size = n) (hi : i < n) : (L ++ Array.replicate m false).setIfInBounds i true = L.setIfInBounds i true ++ Array.replicate m false := by
  apply Array.ext'
  rw [Array.toList_setIfInBounds, Array.toList_append, Array.toList_append, Array.toList_setIfInBounds, List.set_append_left _ _ (by simpa [hs] using hi)]

/-- The region: its head walked once an operation, its tail in order. -/
theorem wp_region_tail {l : List Oper} (n : Nat) {id : Nat} {Q : Exit → Act → World → Prop} (hm : P.follows .mixedOrders = true) (hn : n < l.length)
    (hs : Region.sinkB .any l.toArray n = true) (hc : Region.chainB .any l.toArray n = true) (hq : Region.seqB .any l.toArray (l.length - n) n (Array.replicate n true ++ Array.replicate (l.length - n) false) = true)
    (hb : ∀ (k : Nat) (o : Oper), (l.take n).toArray[k]? = some o → ∀ e ∈ o.after, Region.binds .any e = true → e.on < k)
    (hstep : ∀ (i : Nat) (o : Oper) (L : Array Bool) (a : Act) (w : World) (K : Act → World → Prop), i < n → (l.take n).toArray[i]? = some o → RepT R i1 al (l.take n).toArray die own F a0 W L a w → L.getD i false = false →
      (∀ e ∈ o.after, Region.binds .any e = true → L.getD e.on false = true) → (∀ a' w', RepT R i1 al (l.take n).toArray die own F a0 W (L.setIfInBounds i true) a' w' → K a' w') →
      Region.wanted o (yielded l.toArray a.tmps) = true ∧ Oper.wp P o a w K Q)
    (hend : ∀ (L : Array Bool) (a : Act) (w : World), (∀ k, k < n → L.getD k false = true) → RepT R i1 al (l.take n).toArray die own F a0 W L a w → wpList P l.toArray Q (l.drop n) a w) :
    (Code.region id l.toArray true).wp P Q a0 W := by
  refine wp_region_any hm ?_
  obtain ⟨m, hm'⟩ : ∃ m, m = l.length - n := ⟨_, rfl⟩
  have hsz : (l.take n).toArray.size = n := by simp; omega
  have hget : ∀ k, k < n → l.toArray[k]? = (l.take n).toArray[k]? := fun k hk => by
    rw [List.getElem?_toArray, List.getElem?_toArray, List.getElem?_take_of_lt hk]
  have main : ∀ (c : Nat) (L : Array Bool) (a : Act) (w : World), L.toList.count false = c → RepT R i1 al (l.take n).toArray die own F a0 W L a w →
      (∀ j o, (l.take n).toArray[j]? = some o → L.getD j false = true → ∀ e ∈ o.after, Region.binds .any e = true → L.getD e.on false = true) → wpAny P .any l.toArray Q (c + m) (L ++ Array.replicate m false) a w := by
    intro c
    induction c with
    | zero =>
      intro L a w hcn hrep _
      have hLs : L.size = n := by rw [hrep.size, hsz]
      have hall : ∀ k, k < n → L.getD k false = true := by
        intro k hk
        have hk' : k < L.size := by omega
        rw [List.count_eq_zero] at hcn
        cases hb : L.getD k false with
        | true => rfl
        | false =>
          exfalso
          apply hcn
          have : L[k] = false := by simpa [Array.getD, hk'] using hb
          rw [← this]
          exact Array.getElem_mem_toList hk'
      have hL : L = Array.replicate n true := by
        apply Array.ext (by simpa using hLs)
        intro i h1 h2
        have := hall i (by omega)
        simp only [Array.getD, h1, dif_pos] at this
        simpa using this
      have hw := wpAny_of_seq (P := P) (md := .any) (ops := l.toArray) (Q' := Q) (l.drop n) n (L ++ Array.replicate m false) a w (fun j => by simp [List.getElem?_drop]) (by rw [List.length_drop, hL, hm']; exact hq) (hend L a w hall hrep)
      rw [List.length_drop, ← hm'] at hw
      simpa using hw
    | succ c ih =>
      intro L a w hcn hrep hcl
      have hLs : L.size = n := by rw [hrep.size, hsz]
      have hNs : n + m = l.length := by omega
      -- one is not listed yet
      obtain ⟨k0, hk0, hk0f⟩ : ∃ k, k < n ∧ L.getD k false = false := by
        have : 0 < L.toList.count false := by omega
        rw [List.count_pos_iff] at this
        obtain ⟨k, hk, e⟩ := List.getElem_of_mem this
        have hk' : k < L.size := by simpa using hk
        exact ⟨k, by omega, by simpa [Array.getD, hk'] using e⟩
      have inv : HeadInv .any l.toArray n (L ++ Array.replicate m false) := by
        refine ⟨by simp; omega, fun j oj hj hlj e he hbe => ?_, fun t ht htl => padded_hi hLs ht (by simp at htl; omega) _⟩
        have hjl : j < l.length := by simpa using (Array.getElem?_eq_some_iff.1 hj).1
        by_cases hjn : j < n
        · rw [padded_lo hLs hjn] at hlj
          rw [hget j hjn] at hj
          have h1 := hcl j oj hj hlj e he hbe
          have h2 := hb j oj hj e he hbe
          rw [padded_lo hLs (by omega)]
          exact h1
        · rw [padded_hi hLs (by omega) (by omega)] at hlj; cases hlj
      have hwait := tail_waits hs hc (by simpa using hn) inv _ k0 rfl hk0 (by rw [padded_lo hLs hk0, getD_in (by omega) true false]; exact hk0f)
      have hmem : ∀ i, i ∈ Region.ready .any l.toArray (L ++ Array.replicate m false) → i < n ∧ L.getD i false = false ∧ ∃ o, (l.take n).toArray[i]? = some o ∧ ∀ e ∈ o.after, Region.binds .any e = true → L.getD e.on false = true := by
        intro i hi
        have hin : i < n := by
          by_cases h : i < n
          · exact h
          · exact absurd hi (hwait i (by omega))
        obtain ⟨_, h2, o, ho, h3⟩ := mem_ready_iff.1 hi
        rw [padded_lo hLs hin, getD_in (by omega) true false] at h2
        rw [hget i hin] at ho
        refine ⟨hin, h2, o, ho, fun e he hbe => ?_⟩
        have h4 := h3 e he hbe
        have h5 := hb i o ho e he hbe
        rwa [padded_lo hLs (by omega)] at h4
      rw [show c + 1 + m = (c + m) + 1 by omega]
      refine ⟨fun hr => ?_, fun i hi => ?_⟩
      · exfalso
        -- the first one that is not listed may come up
        have hex : ∀ k, k < n → L.getD k false = true := by
          intro k
          induction k using Nat.strongRecOn with
          | ind k ihk =>
            intro hk
            cases hbk : L.getD k false with
            | true => rfl
            | false =>
              exfalso
              have hk2 : k < (l.take n).toArray.size := by omega
              have hko : l.toArray[k]? = some (l.take n).toArray[k] := by rw [hget k hk]; exact Array.getElem?_eq_getElem hk2
              have : k ∈ Region.ready .any l.toArray (L ++ Array.replicate m false) := mem_ready_iff.2 ⟨by simp; omega, by rw [padded_lo hLs hk, getD_in (by omega) true false]; exact hbk, (l.take n).toArray[k], hko, fun e he hbe => by
                have h5 := hb k _ (Array.getElem?_eq_getElem hk2) e he hbe
                rw [padded_lo hLs (by omega)]
                exact ihk e.on h5 (by omega)⟩
              rw [hr] at this
              cases this
        have := hex k0 hk0
        rw [hk0f] at this
        cases this
      · obtain ⟨hin, h2, o, ho, h3⟩ := hmem i hi
        have hiL : i < L.size := by omega
        refine wpOp_step (by rw [hget i hin]; exact ho) fun K hK => ?_
        obtain ⟨hw, hwp⟩ := hstep i o L a w K hin ho hrep h2 h3 (fun a' w' hr => hK a' w' (by
          rw [padded_set hLs hin]
          refine ih _ _ _ ?_ hr ?_
          · have hLi : L[i] = false := by simpa [Array.getD, hiL] using h2
            have := List.count_set (l := L.toList) (i := i) (a := true) (b := false) (by simpa using hiL)
            simp only [Array.toList_setIfInBounds]
            have e : L.toList[i]'(by simpa using hiL) = false := by simpa using hLi
            rw [this, e, if_pos (show (false == false) = true from rfl), if_neg (show ¬ ((true == false) = true) by decide)]
            omega
          · intro j oj hj hlj e he hbe
            by_cases hji : j = i
            · subst hji
              rw [ho] at hj
              cases hj
              have h5 := hb j o ho e he hbe
              rw [getD_set_other (by omega)]
              exact h3 e he hbe
            · rw [getD_set_other hji] at hlj
              have h6 := hcl j oj hj hlj e he hbe
              by_cases hei : e.on = i
              · rw [hei]; exact getD_set_same hiL false
              · rw [getD_set_other hei]; exact h6))
        rw [if_pos hw]
        exact hwp
  have := main n (Array.replicate n false) a0 { W with drawn := W.drawn + 1 } (by simp) (by have := rept_start (R := R) (i1 := i1) (al := al) (ops := (l.take n).toArray) (die := die) (own := own) (F := F) (a0 := a0) (W := W); rwa [hsz] at this) (fun j o _ hl => by
    rw [getD_replicate_false] at hl; cases hl)
  rw [show n + m = l.toArray.size by simp; omega] at this
  rw [show Array.replicate l.toArray.size false = Array.replicate n false ++ Array.replicate m false by rw [Array.replicate_append_replicate]; congr 1; simp; omega]
  exact this

/-- Where a step's new value may lie. -/
def FreshT (R : Option Nat) (i1 : Nat) (al own : Nat → Bool) (W : World) (i : Nat) (w : World) (row : Option Nat) (v : Value) : Prop :=
  bk al i v = none ∨ (∃ g, bk al i v = some g ∧ w.heap.size ≤ g) ∨ bk al i v = row ∨ (own i = false ∧ ∃ g, bk al i v = some g ∧ g < W.heap.size ∧ some g ≠ R) ∨ (i = i1 ∧ bk al i v = R)

theorem FreshT.old {i1 : Nat} {al own : Nat → Bool} {W : World} {i : Nat} {w : World} {row : Option Nat} {v : Value} (hi : own i = false) (h : ∀ g, bk al i v = some g → g < W.heap.size) : FreshT none i1 al own W i w row v := by
  cases e : bk al i v with
  | none => exact .inl e
  | some g => exact .inr (.inr (.inr (.inl ⟨hi, g, e, h g e, by simp⟩)))

/-- The same, each step's end told by what it leaves. -/
theorem wp_region_gt {l : List Oper} (n : Nat) {N : Nat} {S : Nat → Bool} {id : Nat} {Q : Exit → Act → World → Prop} (hm : P.follows .mixedOrders = true) (hn : n < l.length)
    (hs : Region.sinkB .any l.toArray n = true) (hc : Region.chainB .any l.toArray n = true) (hsq : Region.seqB .any l.toArray (l.length - n) n (Array.replicate n true ++ Array.replicate (l.length - n) false) = true)
    (hok : regionOkT (l.take n).toArray N S = true) (hN : N ≤ a0.tmps.size) (hR : ∀ g, R = some g → g < W.heap.size) (hF : ∀ k, LastsK al q k (F k))
    (hstep : ∀ (i : Nat) (o : Oper) (L : Array Bool) (a : Act) (w : World) (K : Act → World → Prop), i < n → (l.take n).toArray[i]? = some o → W.grownBy w R → (i = i1 → W.grownBy w none) → L.getD i false = false → (∀ k, n ≤ k → L.getD k false = false) →
      (∀ j, (o.after.toList.any fun e => Region.binds .any e && e.on == j) = true → L.getD j false = true) →
      (∀ t, S t = false → a.eval (.tmp t) = a0.eval (.tmp t)) →
      (∀ k, k < n → liveAt die L k → F k (a.eval (.tmp (slotOf (l.take n).toArray k))) w) →
      (∀ (v : Value) (w' : World), w.grownBy w' none → F i v w' → (∀ g, bk al i v = some g → g < w'.heap.size) → FreshT R i1 al own W i w none v → K (a.put o.dst v) w') →
      (q = false → ∀ (k : Nat) (v : Value) (w' : World), k < n → liveAt die L k → own k = true → die k = i → w.grownBy w' (bk al k (a.eval (.tmp (slotOf (l.take n).toArray k)))) →
        F i v w' → (∀ g, bk al i v = some g → g < w'.heap.size) → FreshT R i1 al own W i w (bk al k (a.eval (.tmp (slotOf (l.take n).toArray k)))) v → K (a.put o.dst v) w') →
      Region.wanted o (yielded l.toArray a.tmps) = true ∧ Oper.wp P o a w K Q)
    (hend : ∀ (a : Act) (w : World), W.grownBy w R →
      (∀ k, k < n → n ≤ die k → F k (a.eval (.tmp (slotOf (l.take n).toArray k))) w ∧ (own k = true → ∀ g, bk al k (a.eval (.tmp (slotOf (l.take n).toArray k))) = some g → W.heap.size ≤ g ∨ some g = R)) →
      (∀ k j, k < n → j < n → k ≠ j → n ≤ die k → n ≤ die j → own k = true → bk al j (a.eval (.tmp (slotOf (l.take n).toArray j))) = none ∨ bk al j (a.eval (.tmp (slotOf (l.take n).toArray j))) ≠ bk al k (a.eval (.tmp (slotOf (l.take n).toArray k)))) →
      a = { tmps := (fill S (fun t => a.tmps.getD t undef) 0 a0.tmps.toList).toArray, defers := a0.defers } → wpList P l.toArray Q (l.drop n) a w) :
    (Code.region id l.toArray true).wp P Q a0 W := by
  have hsz : (l.take n).toArray.size = n := by simp; omega
  refine wp_region_tail (R := R) (i1 := i1) (al := al) (die := die) (own := own) (F := F) n hm hn hs hc hsq (regionOkT_back hok) ?_ ?_
  · intro i o L a w K hi ho hrep hLi hpre hK
    have hout : ∀ k : Nat, n ≤ k → L.getD k false = false := by
      intro k hk
      have hk' : ¬ k < L.size := by rw [hrep.size]; omega
      simp [Array.getD, hk']
    refine hstep i o L a w K hi ho hrep.old (fun e => hrep.oldN (by rw [← e]; exact hLi)) hLi hout ?_ ?_ ?_ ?_ ?_
    · intro j hj
      obtain ⟨n', hn', hb, rfl⟩ : ∃ (n : Nat) (h : n < o.after.size), Region.binds Region.Mode.any o.after[n] = true ∧ o.after[n].on = j := by simpa using hj
      exact hpre _ (Array.getElem_mem hn') hb
    · intro t ht
      exact hrep.frame t fun k hk e => by
        have := (regionOkT_slot hok hk).2.1
        rw [e, ht] at this
        cases this
    · intro k hk hl
      exact (hrep.item k (by omega) hl).1
    · intro v w' hg hv hlt hnew
      exact hK _ _ (rept_go hok hN hR hF hrep (by omega) hLi ho hg (.inl rfl) (fun _ => rfl) hv hlt hnew)
    · intro hqf k v w' hk hl hok' hd hg hv hlt hnew
      exact hK _ _ (rept_go hok hN hR hF hrep (by omega) hLi ho hg (.inr ⟨k, by omega, hl, hok', hd, rfl⟩) (fun h => by rw [hqf] at h; cases h) hv hlt hnew)
  · intro L a w hl hrep
    have hlive : ∀ k, k < n → n ≤ die k → liveAt die L k := fun k hk hd => ⟨hl k hk, by
      have : ¬ die k < L.size := by rw [hrep.size]; omega
      simp [Array.getD, this]⟩
    exact hend a w hrep.old (fun k hk hd => ⟨(hrep.item k (by omega) (hlive k hk hd)).1, (hrep.item k (by omega) (hlive k hk hd)).2.2⟩)
      (fun k j hk hj hkj hdk hdj hok => hrep.apart k j (by omega) (by omega) hkj (hlive k hk hdk) (hlive j hj hdj) hok) (rept_frame hok hrep)
end

section
variable {P : Program} {o : Oper} {a : Act} {w : World} {K : Act → World → Prop} {Q : Exit → Act → World → Prop}
/-- A variable, made. -/
theorem wp_alloc {t : TypeId} {C : Array Value} (ho : o.op = .alloc t) (hrun : (Instr.alloc t true (.tuple #[])).run P w = .ok (.pointer (some ⟨w.heap.size, 0, none⟩)) (w.alloc (.cells C t))) (h : K (a.put o.dst (.pointer (some ⟨w.heap.size, 0, none⟩))) (w.alloc (.cells C t))) : Oper.wp P o a w K Q := by
  unfold Oper.wp execOp
  simp only [ho, Sem.run_bind, hrun, Result.andThen_ok, Sem.run_pure]
  exact h
/-- A struct's field's address. -/
theorem wp_field {t : TypeId} {x : Operand} {i : Nat} {xv v : Value} (ho : o.op = .fieldAddr t x i) (hx : a.eval x = xv) (hrun : ∀ w, (Instr.fieldAt t xv i).run P w = .ok v w) (h : K (a.put o.dst v) w) : Oper.wp P o a w K Q := by
  unfold Oper.wp execOp
  simp only [ho, hx, Sem.run_bind, hrun, Result.andThen_ok, Sem.run_pure]
  exact h
/-- A one-cell load. -/
theorem wp_loadC {t : TypeId} {x : Operand} {xv v : Value} (ho : o.op = .load t x) (hx : a.eval x = xv) (hrun : (Instr.loadAt t xv).run P w = .ok v w) (h : K (a.put o.dst v) w) : Oper.wp P o a w K Q := by
  unfold Oper.wp execOp
  simp only [ho, hx, Sem.run_bind, hrun, Result.andThen_ok, Sem.run_pure]
  exact h
end
theorem eval_const (a : Act) (c : Value) : a.eval (.const c) = c := rfl
theorem load_cell {P : Program} {w : World} {t : TypeId} {ad : Addr} {v : Value} {d : TypeDesc} (hc : w.cell? ad = some v) (hu : P.underlying t = some d) (hd : d.isRow = false) : (Instr.loadAt t (.pointer (some ad))).run P w = .ok v w := by
  have hagg : (isAgg t).run P w = .ok false w := by
    unfold isAgg
    rw [Sem.run_bind, run_underlying hu w]
    cases d <;> simp_all
  simp [Instr.loadAt, Instr.sureAddr, loadVar, Sem.run_bind, hagg, hc]
theorem alloc_H (w : World) : (Instr.alloc 23 true (.tuple #[])).run Tryd.prog w = .ok (.pointer (some ⟨w.heap.size, 0, none⟩)) (w.alloc (.cells (rowH []) 23)) := by kernel_rfl
theorem alloc_O (w : World) : (Instr.alloc 28 true (.tuple #[])).run Tryd.prog w = .ok (.pointer (some ⟨w.heap.size, 0, none⟩)) (w.alloc (.cells #[.slice none 0 0, .slice none 0 0] 28)) := by kernel_rfl
theorem field_O (g : Nat) (i : Nat) (hi : i < 2) (w : World) : (Instr.fieldAt 28 (.pointer (some ⟨g, 0, none⟩)) i).run Tryd.prog w = .ok (.pointer (some ⟨g, i, none⟩)) w := by
  rcases (show i = 0 ∨ i = 1 by omega) with rfl | rfl <;> kernel_rfl
end Go.Proofs.YtmfnncfiaaeknaaDoor
