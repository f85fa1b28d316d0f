/- A region that draws its order and holds calls, literals and appends: walked once an operation, not once an order. Each operation leaves an item (its slot's value, with a fact that lasts) until the operation that uses it up; the order of what is apart does not matter. -/
import Derived.Test.YtmfnncfiaaeknaaDoorMem
import Derived.RegionTactic
namespace Go.Proofs.YtmfnncfiaaeknaaDoor
open Go.RowKit

/-- A fact on a value that lasts wherever the block in which the value lies has not changed. -/
def Lasts (F : Value → World → Prop) : Prop := ∀ v w w' row, F v w → w.grownBy w' row → (v.ownBlock = none ∨ v.ownBlock ≠ row) → F v w'

section
variable (ops : Array Oper) (die : Nat → Nat) (own : Nat → Bool) (F : Nat → Value → World → Prop) (a0 : Act) (W : World)

def slotOf (k : Nat) : Nat := ((ops[k]?).bind (·.dst)).getD 0
def valOf (a : Act) (k : Nat) : Value := a.tmps.getD (slotOf ops k) undef
def liveAt (L : Array Bool) (k : Nat) : Prop := L.getD k false = true ∧ L.getD (die k) false = false

/-- What stands at every moment of the region: L says which operations have been done. -/
structure Rep (L : Array Bool) (a : Act) (w : World) : Prop where
  size : L.size = ops.size
  defers : a.defers = a0.defers
  tmps : a.tmps.size = a0.tmps.size
  frame : ∀ t, (∀ k, k < ops.size → slotOf ops k ≠ t) → a.tmps.getD t undef = a0.tmps.getD t undef
  old : W.grownBy w none
  item : ∀ k, k < ops.size → liveAt die L k → F k (valOf ops a k) w ∧ (∀ g, (valOf ops a k).ownBlock = some g → g < w.heap.size) ∧ (own k = true → ∀ g, (valOf ops a k).ownBlock = some g → W.heap.size ≤ g)
  apart : ∀ k j, k < ops.size → j < ops.size → k ≠ j → liveAt die L k → liveAt die L j → own k = true → (valOf ops a j).ownBlock = none ∨ (valOf ops a j).ownBlock ≠ (valOf ops a k).ownBlock

theorem getD_set_same {L : Array Bool} {i : Nat} (h : i < L.size) (d : Bool) : (L.setIfInBounds i true).getD i d = true := by
  simp [Array.getD, h]
theorem getD_set_other {L : Array Bool} {i k : Nat} (h : k ≠ i) (d : Bool) : (L.setIfInBounds i true).getD k d = L.getD k d := by
  simp only [Array.getD_eq_getD_getElem?, Array.getElem?_setIfInBounds_ne (Ne.symm h)]
theorem tmps_put_same {a : Act} {d : Nat} {v : Value} (h : d < a.tmps.size) : (a.put (some d) v).tmps.getD d undef = v := by
  simp [Act.put, Array.getD, h]
theorem tmps_put_other {a : Act} {d t : Nat} {v : Value} (h : t ≠ d) : (a.put (some d) v).tmps.getD t undef = a.tmps.getD t undef := by
  simp only [Act.put, Array.getD_eq_getD_getElem?, Array.getElem?_setIfInBounds_ne (Ne.symm h)]

variable {ops die own F a0 W}
theorem rep_step (hF : ∀ k, Lasts (F k)) {L : Array Bool} {a : Act} {w : World} (h : Rep ops die own F a0 W L a w) {i : Nat} (hi : i < ops.size) {o : Oper} (ho : ops[i]? = some o) {d : Nat} (hd : o.dst = some d)
    (hinj : ∀ k, k < ops.size → k ≠ i → slotOf ops k ≠ d) (hdn : d < a0.tmps.size) {v : Value} {w' : World} {row : Option Nat} (hg : w.grownBy w' row)
    (hrow : row = none ∨ ∃ k, k < ops.size ∧ liveAt die L k ∧ own k = true ∧ die k = i ∧ row = (valOf ops a k).ownBlock)
    (hv : F i v w') (hlt : ∀ g, v.ownBlock = some g → g < w'.heap.size)
    (hnew : v.ownBlock = none ∨ (∃ g, v.ownBlock = some g ∧ w.heap.size ≤ g) ∨ v.ownBlock = row ∨ (own i = false ∧ ∃ g, v.ownBlock = some g ∧ g < W.heap.size)) :
    Rep ops die own F a0 W (L.setIfInBounds i true) (a.put o.dst v) w' := by
  have hsi : slotOf ops i = d := by simp [slotOf, ho, hd]
  rw [hd]
  have hLi : i < L.size := by rw [h.size]; exact hi
  have hval : ∀ k, k < ops.size → k ≠ i → valOf ops (a.put (some d) v) k = valOf ops a k := fun k hk hki => tmps_put_other (hinj k hk hki)
  have hvi : valOf ops (a.put (some d) v) i = v := by
    unfold valOf; rw [hsi]; exact tmps_put_same (by rw [h.tmps]; exact hdn)
  have hlive : ∀ k, k ≠ i → liveAt die (L.setIfInBounds i true) k → liveAt die L k ∧ die k ≠ i := by
    intro k hki hl
    have h1 : die k ≠ i := by
      intro e
      have := hl.2
      rw [e, getD_set_same hLi] at this
      cases this
    exact ⟨⟨by have := hl.1; rwa [getD_set_other hki] at this, by have := hl.2; rwa [getD_set_other h1] at this⟩, h1⟩
  have hfar : ∀ k, k < ops.size → liveAt die L k → die k ≠ i → (valOf ops a k).ownBlock = none ∨ (valOf ops a k).ownBlock ≠ row := by
    intro k hk hl hdk
    rcases hrow with rfl | ⟨k0, hk0, hl0, ho0, hd0, rfl⟩
    · cases (valOf ops a k).ownBlock <;> simp
    · exact h.apart k0 k hk0 hk (fun e => hdk (by rw [← e]; exact hd0)) hl0 hl ho0
  have hold : W.grownBy w' none := by
    refine grown_trans h.old hg ?_
    rcases hrow with rfl | ⟨k0, hk0, hl0, ho0, hd0, rfl⟩
    · exact .inl rfl
    · exact .inr fun g e => (h.item k0 hk0 hl0).2.2 ho0 g e
  have hvW : own i = true → ∀ g, v.ownBlock = some g → W.heap.size ≤ g := by
    intro hoi g e
    rcases hnew with e1 | ⟨g', e1, hg'⟩ | e1 | ⟨e1, _⟩
    · rw [e1] at e; cases e
    · rw [e1] at e; injection e with e; have := h.old.size; omega
    · rcases hrow with rfl | ⟨k0, hk0, hl0, ho0, hd0, rfl⟩
      · rw [e1] at e; cases e
      · exact (h.item k0 hk0 hl0).2.2 ho0 g (by rw [← e1]; exact e)
    · rw [e1] at hoi; cases hoi
  refine ⟨by rw [Array.size_setIfInBounds]; exact h.size, h.defers, by simp [Act.put, h.tmps], fun t ht => ?_, hold, fun k hk hl => ?_, fun k j hk hj hkj hlk hlj hok => ?_⟩
  · rw [tmps_put_other (fun e => ht i hi (by rw [hsi, e]))]
    exact h.frame t ht
  · by_cases hki : k = i
    · subst hki
      rw [hvi]
      exact ⟨hv, hlt, hvW⟩
    · obtain ⟨hl', hdk⟩ := hlive k hki hl
      rw [hval k hk hki]
      obtain ⟨h1, h2, h3⟩ := h.item k hk hl'
      exact ⟨hF k _ _ _ _ h1 hg (hfar k hk hl' hdk), fun g e => Nat.lt_of_lt_of_le (h2 g e) hg.size, h3⟩
  · by_cases hki : k = i
    · subst hki
      have hji : j ≠ k := Ne.symm hkj
      obtain ⟨hlj', hdj⟩ := hlive j hji hlj
      rw [hvi, hval j hj hji]
      rcases hnew with e1 | ⟨g', e1, hg'⟩ | e1 | ⟨e1, _⟩
      · rw [e1]; cases (valOf ops a j).ownBlock <;> simp
      · rw [e1]
        cases hb : (valOf ops a j).ownBlock with
        | none => exact .inl rfl
        | some b => exact .inr fun e => by injection e with e; have := (h.item j hj hlj').2.1 b hb; omega
      · rw [e1]; exact hfar j hj hlj' hdj
      · rw [e1] at hok; cases hok
    · obtain ⟨hlk', hdk⟩ := hlive k hki hlk
      rw [hval k hk hki]
      by_cases hji : j = i
      · subst hji
        rw [hvi]
        rcases hnew with e1 | ⟨g', e1, hg'⟩ | e1 | ⟨_, g', e1, hg'⟩
        · exact .inl e1
        · refine .inr fun e => ?_
          rw [e1] at e
          have := (h.item k hk hlk').2.1 g' e.symm
          omega
        · rcases hfar k hk hlk' hdk with h1 | h1
          · cases hb : v.ownBlock with
            | none => exact .inl rfl
            | some b => exact .inr fun e => by rw [h1] at e; cases e
          · exact .inr fun e => h1 (by rw [← e, e1])
        · refine .inr fun e => ?_
          rw [e1] at e
          have := (h.item k hk hlk').2.2 hok g' e.symm
          omega
      · obtain ⟨hlj', hdj⟩ := hlive j hji hlj
        rw [hval j hj hji]
        exact h.apart k j hk hj hkj hlk' hlj' hok

theorem mem_ready_iff {md : Region.Mode} {ops : Array Oper} {L : Array Bool} {i : Nat} : i ∈ Region.ready md ops L ↔ i < ops.size ∧ L.getD i true = false ∧ ∃ o, ops[i]? = some o ∧ ∀ e ∈ o.after, Region.binds md e = true → L.getD e.on false = true := by
  unfold Region.ready
  rw [List.mem_filter, List.mem_range]
  constructor
  · rintro ⟨h1, h2⟩
    simp only [Bool.and_eq_true, Bool.not_eq_true'] at h2
    obtain ⟨o, ho⟩ : ∃ o, ops[i]? = some o := ⟨ops[i], Array.getElem?_eq_getElem h1⟩
    refine ⟨h1, h2.1, o, ho, fun e he hb => ?_⟩
    have h3 := h2.2
    rw [ho] at h3
    simp only [Option.map_some, Option.getD_some, Array.all_eq_true_iff_forall_mem] at h3
    have := h3 e he
    simpa [hb] using this
  · rintro ⟨h1, h2, o, ho, h3⟩
    refine ⟨h1, ?_⟩
    simp only [Bool.and_eq_true, Bool.not_eq_true']
    refine ⟨h2, ?_⟩
    rw [ho]
    simp only [Option.map_some, Option.getD_some, Array.all_eq_true_iff_forall_mem]
    intro e he
    cases hb : Region.binds md e
    · simp
    · simpa using h3 e he hb

theorem getD_in {L : Array Bool} {i : Nat} (h : i < L.size) (a b : Bool) : L.getD i a = L.getD i b := by simp [Array.getD, h]

/-- What the kernel can see of a region's text: edges go back; every operation has a slot of its own, below N, all of them in S. -/
def regionOk (ops : Array Oper) (N : Nat) (S : Nat → Bool) : Bool :=
  (List.range ops.size).all fun k => ((ops[k]?).map fun o => (o.after.all fun e => decide (e.on < k)) && o.dst.isSome).getD false && decide (slotOf ops k < N) && S (slotOf ops k) && (List.range ops.size).all fun j => k == j || slotOf ops k != slotOf ops j
theorem regionOk_back {ops : Array Oper} {N : Nat} {S : Nat → Bool} (h : regionOk ops N S = true) : ∀ (k : Nat) (o : Oper), ops[k]? = some o → ∀ e ∈ o.after, e.on < k := by
  intro k o ho e he
  have hk : k < ops.size := (Array.getElem?_eq_some_iff.1 ho).1
  simp only [regionOk, List.all_eq_true, List.mem_range] at h
  have h1 := h k hk
  simp only [ho, Option.map_some, Option.getD_some, Bool.and_eq_true, Array.all_eq_true_iff_forall_mem, decide_eq_true_eq] at h1
  exact h1.1.1.1.1 e he
theorem regionOk_slot {ops : Array Oper} {N : Nat} {S : Nat → Bool} (h : regionOk ops N S = true) {k : Nat} (hk : k < ops.size) : slotOf ops k < N ∧ S (slotOf ops k) = true ∧ (∀ j, j < ops.size → j ≠ k → slotOf ops j ≠ slotOf ops k) ∧ ∀ o, ops[k]? = some o → o.dst = some (slotOf ops k) := by
  simp only [regionOk, List.all_eq_true, List.mem_range] at h
  have h1 := h k hk
  simp only [Bool.and_eq_true, decide_eq_true_eq] at h1
  refine ⟨h1.1.1.2, h1.1.2, fun j hj hjk e => ?_, fun o ho => ?_⟩
  · have := h1.2
    simp only [List.all_eq_true, List.mem_range] at this
    have h2 := this j hj
    simp only [Bool.or_eq_true, beq_iff_eq, bne_iff_ne] at h2
    rcases h2 with h2 | h2
    · exact hjk h2.symm
    · exact h2 e.symm
  · have h2 := h1.1.1.1
    simp only [ho, Option.map_some, Option.getD_some, Bool.and_eq_true] at h2
    cases hd : o.dst with
    | none => rw [hd] at h2; simp at h2
    | some d => simp [slotOf, ho, hd]

/-- One step, the region's text seen by the kernel. -/
theorem rep_go {N : Nat} {S : Nat → Bool} (hok : regionOk ops N S = true) (hN : N ≤ a0.tmps.size) (hF : ∀ k, Lasts (F k)) {L : Array Bool} {a : Act} {w : World} (h : Rep ops die own F a0 W L a w) {i : Nat} (hi : i < ops.size) {o : Oper} (ho : ops[i]? = some o)
    {v : Value} {w' : World} {row : Option Nat} (hg : w.grownBy w' row)
    (hrow : row = none ∨ ∃ k, k < ops.size ∧ liveAt die L k ∧ own k = true ∧ die k = i ∧ row = (valOf ops a k).ownBlock)
    (hv : F i v w') (hlt : ∀ g, v.ownBlock = some g → g < w'.heap.size)
    (hnew : v.ownBlock = none ∨ (∃ g, v.ownBlock = some g ∧ w.heap.size ≤ g) ∨ v.ownBlock = row ∨ (own i = false ∧ ∃ g, v.ownBlock = some g ∧ g < W.heap.size)) :
    Rep ops die own F a0 W (L.setIfInBounds i true) (a.put o.dst v) w' := by
  obtain ⟨h1, _, h3, h4⟩ := regionOk_slot hok hi
  exact rep_step hF h hi ho (h4 o ho) h3 (Nat.lt_of_lt_of_le h1 hN) hg hrow hv hlt hnew

/-! The frame behind it, written out. -/
def fill (S : Nat → Bool) (u : Nat → Value) : Nat → List Value → List Value
  | _, [] => []
  | i, x :: r => (bif S i then u i else x) :: fill S u (i + 1) r
theorem fill_get (S : Nat → Bool) (u : Nat → Value) : ∀ (r : List Value) (i j : Nat), (fill S u i r)[j]? = r[j]?.map fun x => bif S (i + j) then u (i + j) else x := by
  intro r
  induction r with
  | nil => intro i j; simp [fill]
  | cons x r ih =>
    intro i j
    cases j with
    | zero => simp [fill]
    | succ j =>
      simp only [fill, List.getElem?_cons_succ, ih]
      rw [show i + 1 + j = i + (j + 1) from by omega]
theorem frame_fill {a a1 : Act} (S : Nat → Bool) (hd : a.defers = a1.defers) (hs : a.tmps.size = a1.tmps.size) (hf : ∀ t, S t = false → a.tmps.getD t undef = a1.tmps.getD t undef) :
    a = { tmps := (fill S (fun t => a.tmps.getD t undef) 0 a1.tmps.toList).toArray, defers := a1.defers } := by
  obtain ⟨tmps, defers⟩ := a
  simp only at hd hs hf ⊢
  subst hd
  congr 1
  apply Array.ext'
  apply List.ext_getElem?
  intro j
  rw [fill_get, Nat.zero_add]
  by_cases hj : j < tmps.size
  · have hj' : j < a1.tmps.size := by omega
    rw [List.getElem?_eq_getElem (by simpa using hj), List.getElem?_eq_getElem (by simpa using hj')]
    simp only [Option.map_some, Option.some.injEq, Array.getElem_toList]
    cases hS : S j
    · have := hf j hS
      simp only [Array.getD, hj, hj', dif_pos] at this
      simpa using this
    · simp [Array.getD, hj]
  · rw [List.getElem?_eq_none (by simpa using hj), List.getElem?_eq_none (by simp; omega)]
    rfl
theorem rep_frame {N : Nat} {S : Nat → Bool} (hok : regionOk ops N S = true) {L : Array Bool} {a : Act} {w : World} (h : Rep ops die own F a0 W L a w) :
    a = { tmps := (fill S (fun t => a.tmps.getD t undef) 0 a0.tmps.toList).toArray, defers := a0.defers } :=
  frame_fill S h.defers h.tmps fun t ht => h.frame t fun k hk e => by
    have := (regionOk_slot hok hk).2.1
    rw [e, ht] at this
    cases this
theorem rep_start : Rep ops die own F a0 W (Array.replicate ops.size false) a0 { W with drawn := W.drawn + 1 } := by
  have hno : ∀ k, ¬ liveAt die (Array.replicate ops.size false) k := fun k hk => by
    have := hk.1
    simp only [Array.getD, Array.size_replicate] at this
    split at this
    · simp at this
    · cases this
  exact ⟨by simp, rfl, rfl, fun _ _ => rfl, grown_drew (grown_refl _ _), fun k _ hl => absurd hl (hno k), fun k j _ _ _ hl => absurd hl (hno k)⟩

variable {P : Program}
/-- The region, walked once an operation. -/
theorem wp_region_rep {id : Nat} {Q : Exit → Act → World → Prop} (hm : P.follows .mixedOrders = true) (hn : ∀ (k : Nat) (o : Oper), ops[k]? = some o → ∀ e ∈ o.after, e.on < k)
    (hstart : Rep ops die own F a0 W (Array.replicate ops.size false) a0 { W with drawn := W.drawn + 1 })
    (hstep : ∀ (i : Nat) (o : Oper) (L : Array Bool) (a : Act) (w : World) (K : Act → World → Prop), i < ops.size → ops[i]? = some o → Rep ops die own F a0 W L a w → L.getD i false = false →
      (∀ e ∈ o.after, Region.binds .any e = true → L.getD e.on false = true) → (∀ a' w', Rep ops die own F a0 W (L.setIfInBounds i true) a' w' → K a' w') →
      Region.wanted o (yielded ops a.tmps) = true ∧ Oper.wp P o a w K Q)
    (hend : ∀ (L : Array Bool) (a : Act) (w : World), (∀ k, k < ops.size → L.getD k false = true) → Rep ops die own F a0 W L a w → Q .normal a w) :
    (Code.region id ops true).wp P Q a0 W := by
  refine wp_region_any hm ?_
  have hall : ∀ (L : Array Bool), L.size = ops.size → Region.ready .any ops L = [] → ∀ k, k < ops.size → L.getD k false = true := by
    intro L hs hr k
    induction k using Nat.strongRecOn with
    | ind k ih =>
      intro hk
      cases hb : L.getD k false with
      | true => rfl
      | false =>
        exfalso
        have : k ∈ Region.ready .any ops L := mem_ready_iff.2 ⟨hk, by rw [getD_in (by omega) true false]; exact hb, ops[k], Array.getElem?_eq_getElem hk, fun e he _ => ih e.on (hn k _ (Array.getElem?_eq_getElem hk) e he) (by have := hn k _ (Array.getElem?_eq_getElem hk) e he; omega)⟩
        rw [hr] at this
        cases this
  have main : ∀ (fuel : Nat) (L : Array Bool) (a : Act) (w : World), L.toList.count false ≤ fuel → Rep ops die own F a0 W L a w → wpAny P .any ops Q fuel L a w := by
    intro fuel
    induction fuel with
    | zero =>
      intro L a w hc hrep
      have hl : ∀ k, k < ops.size → L.getD k false = true := by
        intro k hk
        have hk' : k < L.size := by rw [hrep.size]; exact hk
        have h0 : L.toList.count false = 0 := by omega
        rw [List.count_eq_zero] at h0
        cases hb : L.getD k false with
        | true => rfl
        | false =>
          exfalso
          apply h0
          have : L[k] = false := by simpa [Array.getD, hk'] using hb
          rw [← this]
          exact Array.getElem_mem_toList hk'
      refine ⟨?_, hend L a w hl hrep⟩
      rw [List.eq_nil_iff_forall_not_mem]
      intro i hi
      obtain ⟨h1, h2, _⟩ := mem_ready_iff.1 hi
      rw [getD_in (by rw [hrep.size]; exact h1) true false, hl i h1] at h2
      cases h2
    | succ fuel ih =>
      intro L a w hc hrep
      refine ⟨fun hr => hend L a w (hall L hrep.size hr) hrep, fun i hi => ?_⟩
      obtain ⟨h1, h2, o, ho, h3⟩ := mem_ready_iff.1 hi
      have hiL : i < L.size := by rw [hrep.size]; exact h1
      have h2' : L.getD i false = false := by rw [getD_in hiL false true]; exact h2
      refine wpOp_step ho fun K hK => ?_
      obtain ⟨hw, hwp⟩ := hstep i o L a w K h1 ho hrep h2' h3 (fun a' w' hr => hK a' w' (ih _ _ _ (by
        have hLi : L[i] = false := by simpa [Array.getD, hiL] using h2'
        have := List.count_set (l := L.toList) (i := i) (a := true) (b := false) (by simpa using hiL)
        simp only [Array.toList_setIfInBounds]
        have hpos : 0 < L.toList.count false := List.count_pos_iff.2 (by rw [← hLi]; exact Array.getElem_mem_toList hiL)
        have e : L.toList[i]'(by simpa using hiL) = false := by simpa using hLi
        rw [this, e, if_pos (show (false == false) = true from rfl), if_neg (show ¬ ((true == false) = true) by decide)]
        omega) hr))
      rw [if_pos hw]
      exact hwp
  refine main _ _ _ _ ?_ hstart
  simp

/-- Where a step's new value may lie. -/
def Fresh (own : Nat → Bool) (W : World) (i : Nat) (w : World) (row : Option Nat) (v : Value) : Prop :=
  v.ownBlock = none ∨ (∃ g, v.ownBlock = some g ∧ w.heap.size ≤ g) ∨ v.ownBlock = row ∨ (own i = false ∧ ∃ g, v.ownBlock = some g ∧ g < W.heap.size)
theorem Fresh.ofGrew {own : Nat → Bool} {W : World} {i : Nat} {w w' : World} {u v : Value} (h : Grew w w' u v) : Fresh own W i w u.ownBlock v := by
  rcases h.2 with e | ⟨g, e, hg⟩
  · exact .inr (.inr (.inl e))
  · exact .inr (.inl ⟨g, e, hg⟩)
theorem Fresh.ofNil {own : Nat → Bool} {W : World} {i : Nat} {w w' : World} {v : Value} (h : Grew w w' (.slice none 0 0) v) : Fresh own W i w none v := Fresh.ofGrew h
theorem Fresh.lit {own : Nat → Bool} {W : World} {i : Nat} {w : World} {n c : Nat} : Fresh own W i w none (.slice (some ⟨w.heap.size, 0, none⟩) n c) := .inr (.inl ⟨_, rfl, Nat.le_refl _⟩)

/-- The same, each step's end told by what it leaves. -/
theorem wp_region_go {N : Nat} {S : Nat → Bool} {id : Nat} {Q : Exit → Act → World → Prop} (hm : P.follows .mixedOrders = true) (hok : regionOk ops N S = true) (hN : N ≤ a0.tmps.size) (hF : ∀ k, Lasts (F k))
    (hstep : ∀ (i : Nat) (o : Oper) (L : Array Bool) (a : Act) (w : World) (K : Act → World → Prop), i < ops.size → ops[i]? = some o → W.grownBy w none → L.getD i false = false →
      (∀ j, (o.after.toList.any fun e => Region.binds .any e && e.on == j) = true → L.getD j false = true) →
      (∀ t, S t = false → a.eval (.tmp t) = a0.eval (.tmp t)) →
      (∀ k, k < ops.size → liveAt die L k → F k (a.eval (.tmp (slotOf ops k))) w) →
      (∀ (v : Value) (w' : World), w.grownBy w' none → F i v w' → (∀ g, v.ownBlock = some g → g < w'.heap.size) → Fresh own W i w none v → K (a.put o.dst v) w') →
      (∀ (k : Nat) (v : Value) (w' : World), k < ops.size → liveAt die L k → own k = true → die k = i → w.grownBy w' (a.eval (.tmp (slotOf ops k))).ownBlock →
        F i v w' → (∀ g, v.ownBlock = some g → g < w'.heap.size) → Fresh own W i w (a.eval (.tmp (slotOf ops k))).ownBlock v → K (a.put o.dst v) w') →
      Region.wanted o (yielded ops a.tmps) = true ∧ Oper.wp P o a w K Q)
    (hend : ∀ (a : Act) (w : World), W.grownBy w none → (∀ k, k < ops.size → ops.size ≤ die k → F k (a.eval (.tmp (slotOf ops k))) w ∧ (own k = true → ∀ g, (a.eval (.tmp (slotOf ops k))).ownBlock = some g → W.heap.size ≤ g)) →
      a = { tmps := (fill S (fun t => a.tmps.getD t undef) 0 a0.tmps.toList).toArray, defers := a0.defers } → Q .normal a w) :
    (Code.region id ops true).wp P Q a0 W := by
  refine wp_region_rep (die := die) (own := own) (F := F) hm (regionOk_back hok) rep_start ?_ ?_
  · intro i o L a w K hi ho hrep hLi hpre hK
    refine hstep i o L a w K hi ho hrep.old hLi ?_ ?_ ?_ ?_ ?_
    · intro j hj
      obtain ⟨n, hn, hb, rfl⟩ : ∃ (n : Nat) (h : n < o.after.size), Region.binds Region.Mode.any o.after[n] = true ∧ o.after[n].on = j := by simpa using hj
      exact hpre _ (Array.getElem_mem hn) hb
    · intro t ht
      exact hrep.frame t fun k hk e => by
        have := (regionOk_slot hok hk).2.1
        rw [e, ht] at this
        cases this
    · intro k hk hl
      exact (hrep.item k hk hl).1
    · intro v w' hg hv hlt hnew
      exact hK _ _ (rep_go hok hN hF hrep hi ho hg (.inl rfl) hv hlt hnew)
    · intro k v w' hk hl hok' hd hg hv hlt hnew
      exact hK _ _ (rep_go hok hN hF hrep hi ho hg (.inr ⟨k, hk, hl, hok', hd, rfl⟩) hv hlt hnew)
  · intro L a w hl hrep
    refine hend a w hrep.old (fun k hk hd => ?_) (rep_frame hok hrep)
    have hlive : liveAt die L k := ⟨hl k hk, by
      have : ¬ die k < L.size := by rw [hrep.size]; omega
      simp [Array.getD, this]⟩
    exact ⟨(hrep.item k hk hlive).1, (hrep.item k hk hlive).2.2⟩
end
end Go.Proofs.YtmfnncfiaaeknaaDoor
