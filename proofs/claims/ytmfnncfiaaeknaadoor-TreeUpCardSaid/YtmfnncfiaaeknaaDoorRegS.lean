/- A region that draws its order: a head in any order, one store into a row from before, which late moves may come behind, and a tail in order. -/
import Derived.Test.YtmfnncfiaaeknaaDoorLamK
namespace Go.Proofs.YtmfnncfiaaeknaaDoor
open Go.RowKit

section
variable {al : Nat → Bool} {die : Nat → Nat} {own : Nat → Bool} {F : Nat → Value → World → Prop} {a0 : Act} {W : World} {P : Program}
/-- What stands at each moment: the head's items, and behind the store the world that it makes. -/
def RepS (al : Nat → Bool) (ops : Array Oper) (die : Nat → Nat) (own : Nat → Bool) (F : Nat → Value → World → Prop) (a0 : Act) (W : World) (n : Nat) (late : Nat → Bool) (up : World → World) (L : Array Bool) (a : Act) (w : World) : Prop :=
  L.size = n + 1 ∧ ∃ L5 : Array Bool, L5.size = n ∧ (∀ k, k < n → L5.getD k false = L.getD k false) ∧
    ((L.getD n false = false ∧ RepB al ops die own F a0 W L5 a w) ∨ (L.getD n false = true ∧ (∀ j, j < n → late j = false → L5.getD j false = true) ∧ ∃ w1, RepB al ops die own F a0 W L5 a w1 ∧ w = up w1))
theorem size_setT {L : Array Bool} {n i : Nat} (h : L.size = n) : (L.setIfInBounds i true).size = n := by rw [Array.size_setIfInBounds]; exact h
theorem set_agree {L5 L : Array Bool} {n m i : Nat} (hs5 : L5.size = n) (hs : L.size = m) (hm : n ≤ m) (h : ∀ k, k < n → L5.getD k false = L.getD k false) (hi : i < n) : ∀ k, k < n → (L5.setIfInBounds i true).getD k false = (L.setIfInBounds i true).getD k false := by
  intro k hk
  by_cases e : k = i
  · subst e; rw [getD_set_same (by omega), getD_set_same (by omega)]
  · rw [getD_set_other e, getD_set_other e]; exact h k hk

theorem wp_region_gs {l : List Oper} (n : Nat) {N : Nat} {S : Nat → Bool} (late : Nat → Bool) (up : World → World) {id : Nat} {Q : Exit → Act → World → Prop} (st : Oper) (hst : l[n]? = some st) (hd : st.dst = none) (hm : P.follows .mixedOrders = true) (hn : n + 1 ≤ l.length)
    (hs : n + 1 < l.length → Region.sinkB .any l.toArray (n + 1) = true) (hc : n + 1 < l.length → Region.chainB .any l.toArray (n + 1) = true) (hsq : Region.seqB .any l.toArray (l.length - (n + 1)) (n + 1) (Array.replicate (n + 1) true ++ Array.replicate (l.length - (n + 1)) false) = true)
    (hok : regionOkB (l.take n).toArray N S = true) (hsb : (st.after.all fun e => !(Region.binds .any e) || decide (e.on < n)) = true) (hso : ((List.range n).all fun j => late j || st.after.any fun e => Region.binds .any e && e.on == j) = true)
    (hN : N ≤ a0.tmps.size) (hF : ∀ k, LastsB al k (F k))
    (hlate : ∀ i, i < n → late i = true → ∃ (o : Oper) (x : Operand) (c : Value), (l.take n).toArray[i]? = some o ∧ o.op = .move x ∧ o.guard = none ∧ (∃ d, o.dst = some d) ∧ (∀ a : Act, (∀ t, S t = false → a.eval (.tmp t) = a0.eval (.tmp t)) → a.eval x = c) ∧ (∀ w, F i c w) ∧ bl al i c = [])
    (hstep : ∀ (i : Nat) (o : Oper) (L : Array Bool) (a : Act) (w : World) (K : Act → World → Prop), i < n → (l.take n).toArray[i]? = some o → W.grownBy w none → L.getD i false = false → (∀ k, n ≤ k → L.getD k false = false) →
      (∀ j, (o.after.toList.any fun e => Region.binds .any e && e.on == j) = true → L.getD j false = true) →
      (∀ t, S t = false → a.eval (.tmp t) = a0.eval (.tmp t)) →
      (∀ k, k < n → liveAt die L k → F k (valB (l.take n).toArray a k) w) →
      ((∃ d, o.dst = some d) → ∀ (v : Value) (w' : World), w.grownBy w' none → F i v w' → (∀ g ∈ bl al i v, g < w'.heap.size) → FreshB al own W i w (fun _ => False) v → K (a.put o.dst v) w') →
      ((∃ d, o.dst = some d) → ∀ (k : Nat) (v : Value) (w' : World) (row : Option Nat), k < n → liveAt die L k → own k = true → die k = i → w.grownBy w' row → (∀ g, row = some g → g ∈ bl al k (valB (l.take n).toArray a k)) →
        F i v w' → (∀ g ∈ bl al i v, g < w'.heap.size) → FreshB al own W i w (fun g => g ∈ bl al k (valB (l.take n).toArray a k)) v → K (a.put o.dst v) w') →
      (o.dst = none → ∀ (k : Nat) (u : Value) (w' : World) (row : Option Nat), k < n → liveAt die L k → own k = true → die k = i → w.grownBy w' row → (∀ g, row = some g → g ∈ bl al k (valB (l.take n).toArray a k)) →
        F i (valB (l.take n).toArray a i) w' → (∀ g ∈ bl al i (valB (l.take n).toArray a i), g ∈ bl al k (valB (l.take n).toArray a k)) → K (a.put o.dst u) w') →
      Region.wanted o (yielded l.toArray a.tmps) = true ∧ Oper.wp P o a w K Q)
    (hstore : ∀ (a : Act) (w : World) (K : Act → World → Prop), W.grownBy w none → (∀ t, S t = false → a.eval (.tmp t) = a0.eval (.tmp t)) → (∀ k, k < n → late k = false → n ≤ die k → F k (valB (l.take n).toArray a k) w) →
      (∀ u, K (a.put st.dst u) (up w)) → Region.wanted st (yielded l.toArray a.tmps) = true ∧ Oper.wp P st a w K Q)
    (hend : ∀ (a : Act) (w : World), W.grownBy w none →
      (∀ k, k < n → n ≤ die k → F k (valB (l.take n).toArray a k) w ∧ (own k = true → ∀ g ∈ bl al k (valB (l.take n).toArray a k), W.heap.size ≤ g)) →
      (∀ k j, k < n → j < n → k ≠ j → n ≤ die k → n ≤ die j → own k = true → ∀ g ∈ bl al j (valB (l.take n).toArray a j), g ∉ bl al k (valB (l.take n).toArray a k)) →
      a = { tmps := (fill S (fun t => a.tmps.getD t undef) 0 a0.tmps.toList).toArray, defers := a0.defers } → wpList P l.toArray Q (l.drop (n + 1)) a (up w)) :
    (Code.region id l.toArray true).wp P Q a0 W := by
  have hsz : (l.take n).toArray.size = n := by simp; omega
  have hget : ∀ k, k < n → (l.take (n + 1)).toArray[k]? = (l.take n).toArray[k]? := fun k hk => by
    rw [List.getElem?_toArray, List.getElem?_toArray, List.getElem?_take_of_lt (by omega), List.getElem?_take_of_lt hk]
  have hgetn : (l.take (n + 1)).toArray[n]? = some st := by rw [List.getElem?_toArray, List.getElem?_take_of_lt (by omega)]; exact hst
  have hframe : ∀ {L : Array Bool} {a : Act} {w : World}, RepB al (l.take n).toArray die own F a0 W L a w → ∀ t, S t = false → a.eval (.tmp t) = a0.eval (.tmp t) := fun hrep t ht =>
    hrep.frame t fun k _ o' ho' e => by
      have := (regionOkB_dst hok ho' e).2.1
      rw [ht] at this
      cases this
  have hstb : ∀ e ∈ st.after, Region.binds .any e = true → e.on < n := fun e he hb => by
    have := (Array.all_eq_true_iff_forall_mem.1 hsb) e he
    simpa [hb] using this
  refine wp_region_inv (I := RepS al (l.take n).toArray die own F a0 W n late up) (n + 1) hm hn hs hc hsq ?_ (fun L a w h => h.1) ?_ ?_ ?_
  · intro k o ho e he hb
    have hk : k < n + 1 := by have := (Array.getElem?_eq_some_iff.1 ho).1; simp at this; omega
    by_cases hkn : k < n
    · rw [hget k hkn] at ho; exact regionOkB_back hok k o ho e he hb
    · obtain rfl : k = n := by omega
      rw [hgetn] at ho; cases ho
      exact hstb e he hb
  · refine ⟨by simp, Array.replicate n false, by simp, fun k _ => ?_, .inl ⟨?_, ?_⟩⟩
    · simp only [Array.getD, Array.size_replicate]; split <;> split <;> simp
    · simp [Array.getD]
    · have := repb_start (al := al) (ops := (l.take n).toArray) (die := die) (own := own) (F := F) (a0 := a0) (W := W); rwa [hsz] at this
  · intro i o L a w K hi ho hI hLi hpre hK
    obtain ⟨hLs, L5, hs5, hag, hI⟩ := hI
    by_cases hin : i < n
    · rw [hget i hin] at ho
      have hLf : L5.getD i false = false := by rw [hag i hin]; exact hLi
      have hpre5 : ∀ e ∈ o.after, Region.binds .any e = true → L5.getD e.on false = true := fun e he hb => by
        have h5 := regionOkB_back hok i o ho e he hb
        rw [hag _ (by omega)]; exact hpre e he hb
      have hset := set_agree (i := i) hs5 hLs (Nat.le_succ n) hag hin
      have hne : n ≠ i := by omega
      rcases hI with ⟨hLn, hrep⟩ | ⟨hLn, hall, w1, hrep, rfl⟩
      · have hK' : ∀ a' w', RepB al (l.take n).toArray die own F a0 W (L5.setIfInBounds i true) a' w' → K a' w' := fun a' w' h =>
          hK a' w' ⟨size_setT hLs, _, size_setT hs5, hset, .inl ⟨by rw [getD_set_other hne]; exact hLn, h⟩⟩
        have hout : ∀ k : Nat, n ≤ k → L5.getD k false = false := by
          intro k hk
          have hk' : ¬ k < L5.size := by omega
          simp [Array.getD, hk']
        refine hstep i o L5 a w K hin ho hrep.old hLf hout ?_ (hframe hrep) ?_ ?_ ?_ ?_
        · intro j hj
          obtain ⟨n', hn', hb, rfl⟩ : ∃ (n : Nat) (h : n < o.after.size), Region.binds Region.Mode.any o.after[n] = true ∧ o.after[n].on = j := by simpa using hj
          exact hpre5 _ (Array.getElem_mem hn') hb
        · intro k hk hl
          exact (hrep.item k (by omega) hl).1
        · intro hd v w' hg hv hlt hnew
          exact hK' _ _ (repb_step hok hN hF hrep (by omega) hLf ho hpre5 hg (.inl hd) (fun g e => by cases e) hv hlt (fun g hgm => (hnew g hgm).imp (fun x => x) fun h => .inr (h.resolve_left (fun x => x))) v (fun _ => rfl))
        · intro hd k v w' row hk hl hok' hdk hg hrow hv hlt hnew
          exact hK' _ _ (repb_step hok hN hF hrep (by omega) hLf ho hpre5 hg (.inl hd) (fun g e => ⟨k, by omega, hl, hok', hdk, hrow g e⟩) hv hlt (fun g hgm => (hnew g hgm).imp (fun x => x) fun h => h.imp (fun h => ⟨k, by omega, hl, hok', hdk, h⟩) (fun x => x)) v (fun _ => rfl))
        · intro hd k u w' row hk hl hok' hdk hg hrow hv hsub
          exact hK' _ _ (repb_step hok hN hF hrep (by omega) hLf ho hpre5 hg (.inr ⟨hd, rfl⟩) (fun g e => ⟨k, by omega, hl, hok', hdk, hrow g e⟩) hv (fun g hgm => Nat.lt_of_lt_of_le ((hrep.item k (by omega) hl).2.1 g (hsub g hgm)) hg.size) (fun g hgm => .inr (.inl ⟨k, by omega, hl, hok', hdk, hsub g hgm⟩)) u (fun h => by obtain ⟨d, h⟩ := h; rw [hd] at h; cases h))
      · have hl : late i = true := by
          cases h : late i with
          | true => rfl
          | false => rw [hall i hin h] at hLf; cases hLf
        obtain ⟨o', x, c, ho', hop, hgd, hdst, hev, hFc, hbl⟩ := hlate i hin hl
        rw [ho] at ho'; cases ho'
        refine ⟨by simp [Region.wanted, hgd], wp_move hop ?_⟩
        rw [hev a (hframe hrep)]
        refine hK _ _ ⟨size_setT hLs, _, size_setT hs5, hset, .inr ⟨by rw [getD_set_other hne]; exact hLn, fun j hj hlj => ?_, w1, ?_, rfl⟩⟩
        · have hji : j ≠ i := fun e => by rw [e, hl] at hlj; cases hlj
          rw [getD_set_other hji]; exact hall j hj hlj
        · exact repb_step hok hN hF hrep (by omega) hLf ho hpre5 (grown_refl w1 none) (.inl hdst) (fun g e => by cases e) (hFc w1) (nobl hbl) (nobl hbl) c (fun _ => rfl)
    · obtain rfl : i = n := by omega
      rw [hgetn] at ho; cases ho
      rcases hI with ⟨hLn, hrep⟩ | ⟨hLn, _⟩
      · have hdone : ∀ j, j < i → late j = false → L5.getD j false = true := by
          intro j hj hlj
          have h1 := List.all_eq_true.1 hso j (by simpa using hj)
          rw [hlj, Bool.false_or] at h1
          obtain ⟨m, hm', h2⟩ := Array.any_eq_true.1 h1
          simp only [Bool.and_eq_true, beq_iff_eq] at h2
          rw [hag j hj, ← h2.2]
          exact hpre _ (Array.getElem_mem hm') h2.1
        refine hstore a w K hrep.old (hframe hrep) (fun k hk hlk hdk => (hrep.item k (by omega) ⟨hdone k hk hlk, ?_⟩).1) fun u => ?_
        · have : ¬ die k < L5.size := by omega
          simp [Array.getD, this]
        · refine hK _ _ ⟨size_setT hLs, L5, hs5, fun k hk => ?_, .inr ⟨getD_set_same (by omega) _, hdone, w, ?_, rfl⟩⟩
          · rw [getD_set_other (by omega)]; exact hag k hk
          · rw [hd]; exact hrep
      · rw [hLi] at hLn; cases hLn
  · intro L a w hl hI
    obtain ⟨hLs, L5, hs5, hag, hI⟩ := hI
    rcases hI with ⟨hLn, _⟩ | ⟨_, _, w1, hrep, rfl⟩
    · rw [hl n (by omega)] at hLn; cases hLn
    · have hlive : ∀ k, k < n → n ≤ die k → liveAt die L5 k := fun k hk hd => ⟨by rw [hag k hk]; exact hl k (by omega), by
        have : ¬ die k < L5.size := by omega
        simp [Array.getD, this]⟩
      exact hend a w1 hrep.old (fun k hk hd => ⟨(hrep.item k (by omega) (hlive k hk hd)).1, (hrep.item k (by omega) (hlive k hk hd)).2.2⟩)
        (fun k j hk hj hkj hdk hdj hok => hrep.apart k j (by omega) (by omega) hkj (hlive k hk hdk) (hlive j hj hdj) hok) (repb_frame hok hrep)
end
end Go.Proofs.YtmfnncfiaaeknaaDoor
