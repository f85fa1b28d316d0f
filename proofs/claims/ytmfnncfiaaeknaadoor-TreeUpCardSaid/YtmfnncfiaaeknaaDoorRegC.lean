/- A region that draws its order, with operations left out by a guard, and values made of several that end there. -/
import Derived.Test.YtmfnncfiaaeknaaDoorLamU
namespace Go.Proofs.YtmfnncfiaaeknaaDoor
open Go.RowKit

section
variable {al : Nat → Bool} {ops : Array Oper} {die : Nat → Nat} {own : Nat → Bool} {F : Nat → Value → World → Prop} {a0 : Act} {W : World} {P : Program}
/-- As wp_region_inv, and an operation may be left out by its guard: its slot then holds undef. -/
theorem wp_region_invC {I : Array Bool → Act → World → Prop} {l : List Oper} (n : Nat) {id : Nat} {Q : Exit → Act → World → Prop} (hm : P.follows .mixedOrders = true) (hn : n ≤ l.length)
    (hs : n < l.length → Region.sinkB .any l.toArray n = true) (hc : n < l.length → Region.chainB .any l.toArray n = true) (hq : Region.seqB .any l.toArray (l.length - n) n (Array.replicate n true ++ Array.replicate (l.length - n) false) = true)
    (hb : ∀ (k : Nat) (o : Oper), (l.take n).toArray[k]? = some o → ∀ e ∈ o.after, Region.binds .any e = true → e.on < k)
    (hsize : ∀ L a w, I L a w → L.size = n) (hstart : I (Array.replicate n false) a0 { W with drawn := W.drawn + 1 })
    (hstep : ∀ (i : Nat) (o : Oper) (L : Array Bool) (a : Act) (w : World) (K : Act → World → Prop), i < n → (l.take n).toArray[i]? = some o → I L a w → L.getD i false = false →
      (∀ e ∈ o.after, Region.binds .any e = true → L.getD e.on false = true) → (∀ a' w', I (L.setIfInBounds i true) a' w' → K a' w') →
      (Region.wanted o (yielded l.toArray a.tmps) = true ∧ Oper.wp P o a w K Q) ∨ (Region.wanted o (yielded l.toArray a.tmps) = false ∧ K (a.put o.dst undef) w))
    (hend : ∀ (L : Array Bool) (a : Act) (w : World), (∀ k, k < n → L.getD k false = true) → I L a w → wpList P l.toArray Q (l.drop n) a w) :
    (Code.region id l.toArray true).wp P Q a0 W := by
  refine wp_region_any hm ?_
  obtain ⟨m, hm'⟩ : ∃ m, m = l.length - n := ⟨_, rfl⟩
  have hsz : (l.take n).toArray.size = n := by simp; omega
  have hget : ∀ k, k < n → l.toArray[k]? = (l.take n).toArray[k]? := fun k hk => by
    rw [List.getElem?_toArray, List.getElem?_toArray, List.getElem?_take_of_lt hk]
  have main : ∀ (c : Nat) (L : Array Bool) (a : Act) (w : World), L.toList.count false = c → I L a w →
      (∀ j o, (l.take n).toArray[j]? = some o → L.getD j false = true → ∀ e ∈ o.after, Region.binds .any e = true → L.getD e.on false = true) → wpAny P .any l.toArray Q (c + m) (L ++ Array.replicate m false) a w := by
    intro c
    induction c with
    | zero =>
      intro L a w hcn hrep _
      have hLs : L.size = n := hsize L a w hrep
      have hall : ∀ k, k < n → L.getD k false = true := by
        intro k hk
        have hk' : k < L.size := by omega
        rw [List.count_eq_zero] at hcn
        cases hb : L.getD k false with
        | true => rfl
        | false =>
          exfalso
          apply hcn
          have : L[k] = false := by simpa [Array.getD, hk'] using hb
          rw [← this]
          exact Array.getElem_mem_toList hk'
      have hL : L = Array.replicate n true := by
        apply Array.ext (by simpa using hLs)
        intro i h1 h2
        have := hall i (by omega)
        simp only [Array.getD, h1, dif_pos] at this
        simpa using this
      have hw := wpAny_of_seq (P := P) (md := .any) (ops := l.toArray) (Q' := Q) (l.drop n) n (L ++ Array.replicate m false) a w (fun j => by simp [List.getElem?_drop]) (by rw [List.length_drop, hL, hm']; exact hq) (hend L a w hall hrep)
      rw [List.length_drop, ← hm'] at hw
      simpa using hw
    | succ c ih =>
      intro L a w hcn hrep hcl
      have hLs : L.size = n := hsize L a w hrep
      have hNs : n + m = l.length := by omega
      -- one is not listed yet
      obtain ⟨k0, hk0, hk0f⟩ : ∃ k, k < n ∧ L.getD k false = false := by
        have : 0 < L.toList.count false := by omega
        rw [List.count_pos_iff] at this
        obtain ⟨k, hk, e⟩ := List.getElem_of_mem this
        have hk' : k < L.size := by simpa using hk
        exact ⟨k, by omega, by simpa [Array.getD, hk'] using e⟩
      have inv : HeadInv .any l.toArray n (L ++ Array.replicate m false) := by
        refine ⟨by simp; omega, fun j oj hj hlj e he hbe => ?_, fun t ht htl => padded_hi hLs ht (by simp at htl; omega) _⟩
        have hjl : j < l.length := by simpa using (Array.getElem?_eq_some_iff.1 hj).1
        by_cases hjn : j < n
        · rw [padded_lo hLs hjn] at hlj
          rw [hget j hjn] at hj
          have h1 := hcl j oj hj hlj e he hbe
          have h2 := hb j oj hj e he hbe
          rw [padded_lo hLs (by omega)]
          exact h1
        · rw [padded_hi hLs (by omega) (by omega)] at hlj; cases hlj
      have hwait : ∀ t, n ≤ t → t ∉ Region.ready .any l.toArray (L ++ Array.replicate m false) := by
        rcases Nat.lt_or_eq_of_le hn with hlt | heq
        · exact tail_waits (hs hlt) (hc hlt) (by simpa using hlt) inv _ k0 rfl hk0 (by rw [padded_lo hLs hk0, getD_in (by omega) true false]; exact hk0f)
        · intro t ht hm
          have h1 := (mem_ready_iff.1 hm).1
          have h2 : t < l.length := by simpa using h1
          omega
      have hmem : ∀ i, i ∈ Region.ready .any l.toArray (L ++ Array.replicate m false) → i < n ∧ L.getD i false = false ∧ ∃ o, (l.take n).toArray[i]? = some o ∧ ∀ e ∈ o.after, Region.binds .any e = true → L.getD e.on false = true := by
        intro i hi
        have hin : i < n := by
          by_cases h : i < n
          · exact h
          · exact absurd hi (hwait i (by omega))
        obtain ⟨_, h2, o, ho, h3⟩ := mem_ready_iff.1 hi
        rw [padded_lo hLs hin, getD_in (by omega) true false] at h2
        rw [hget i hin] at ho
        refine ⟨hin, h2, o, ho, fun e he hbe => ?_⟩
        have h4 := h3 e he hbe
        have h5 := hb i o ho e he hbe
        rwa [padded_lo hLs (by omega)] at h4
      rw [show c + 1 + m = (c + m) + 1 by omega]
      refine ⟨fun hr => ?_, fun i hi => ?_⟩
      · exfalso
        -- the first one that is not listed may come up
        have hex : ∀ k, k < n → L.getD k false = true := by
          intro k
          induction k using Nat.strongRecOn with
          | ind k ihk =>
            intro hk
            cases hbk : L.getD k false with
            | true => rfl
            | false =>
              exfalso
              have hk2 : k < (l.take n).toArray.size := by omega
              have hko : l.toArray[k]? = some (l.take n).toArray[k] := by rw [hget k hk]; exact Array.getElem?_eq_getElem hk2
              have : k ∈ Region.ready .any l.toArray (L ++ Array.replicate m false) := mem_ready_iff.2 ⟨by simp; omega, by rw [padded_lo hLs hk, getD_in (by omega) true false]; exact hbk, (l.take n).toArray[k], hko, fun e he hbe => by
                have h5 := hb k _ (Array.getElem?_eq_getElem hk2) e he hbe
                rw [padded_lo hLs (by omega)]
                exact ihk e.on h5 (by omega)⟩
              rw [hr] at this
              cases this
        have := hex k0 hk0
        rw [hk0f] at this
        cases this
      · obtain ⟨hin, h2, o, ho, h3⟩ := hmem i hi
        have hiL : i < L.size := by omega
        refine wpOp_step (by rw [hget i hin]; exact ho) fun K hK => ?_
        have hst := hstep i o L a w K hin ho hrep h2 h3 (fun a' w' hr => hK a' w' (by
          rw [padded_set hLs hin]
          refine ih _ _ _ ?_ hr ?_
          · have hLi : L[i] = false := by simpa [Array.getD, hiL] using h2
            have := List.count_set (l := L.toList) (i := i) (a := true) (b := false) (by simpa using hiL)
            simp only [Array.toList_setIfInBounds]
            have e : L.toList[i]'(by simpa using hiL) = false := by simpa using hLi
            rw [this, e, if_pos (show (false == false) = true from rfl), if_neg (show ¬ ((true == false) = true) by decide)]
            omega
          · intro j oj hj hlj e he hbe
            by_cases hji : j = i
            · subst hji
              rw [ho] at hj
              cases hj
              have h5 := hb j o ho e he hbe
              rw [getD_set_other (by omega)]
              exact h3 e he hbe
            · rw [getD_set_other hji] at hlj
              have h6 := hcl j oj hj hlj e he hbe
              by_cases hei : e.on = i
              · rw [hei]; exact getD_set_same hiL false
              · rw [getD_set_other hei]; exact h6))
        rcases hst with ⟨hw, hwp⟩ | ⟨hw, hk⟩
        · rw [if_pos hw]; exact hwp
        · rw [if_neg (by rw [hw]; simp)]; exact hk
  have := main n (Array.replicate n false) a0 { W with drawn := W.drawn + 1 } (by simp) hstart (fun j o _ hl => by
    rw [getD_replicate_false] at hl; cases hl)
  rw [show n + m = l.toArray.size by simp; omega] at this
  rw [show Array.replicate l.toArray.size false = Array.replicate n false ++ Array.replicate m false by rw [Array.replicate_append_replicate]; congr 1; simp; omega]
  exact this


theorem wp_region_gc {l : List Oper} (n : Nat) {N : Nat} {S : Nat → Bool} {id : Nat} {Q : Exit → Act → World → Prop} (hm : P.follows .mixedOrders = true) (hn : n ≤ l.length)
    (hs : n < l.length → Region.sinkB .any l.toArray n = true) (hc : n < l.length → Region.chainB .any l.toArray n = true) (hsq : Region.seqB .any l.toArray (l.length - n) n (Array.replicate n true ++ Array.replicate (l.length - n) false) = true)
    (hok : regionOkB (l.take n).toArray N S = true) (hN : N ≤ a0.tmps.size) (hF : ∀ k, LastsB al k (F k))
    (hstep : ∀ (i : Nat) (o : Oper) (L : Array Bool) (a : Act) (w : World) (K : Act → World → Prop), i < n → (l.take n).toArray[i]? = some o → W.grownBy w none → L.getD i false = false → (∀ k, n ≤ k → L.getD k false = false) →
      (∀ j, (o.after.toList.any fun e => Region.binds .any e && e.on == j) = true → L.getD j false = true) →
      (∀ t, S t = false → a.eval (.tmp t) = a0.eval (.tmp t)) →
      (∀ k, k < n → liveAt die L k → F k (valB (l.take n).toArray a k) w) →
      (∀ k j, k < n → j < n → k ≠ j → liveAt die L k → liveAt die L j → own k = true → ∀ g ∈ bl al j (valB (l.take n).toArray a j), g ∉ bl al k (valB (l.take n).toArray a k)) →
      ((∃ d, o.dst = some d) → ∀ (v : Value) (w' : World), w.grownBy w' none → F i v w' → (∀ g ∈ bl al i v, g < w'.heap.size) → FreshB al own W i w (fun _ => False) v → K (a.put o.dst v) w') →
      ((∃ d, o.dst = some d) → ∀ (k : Nat) (v : Value) (w' : World) (row : Option Nat), k < n → liveAt die L k → own k = true → die k = i → w.grownBy w' row → (∀ g, row = some g → g ∈ bl al k (valB (l.take n).toArray a k)) →
        F i v w' → (∀ g ∈ bl al i v, g < w'.heap.size) → FreshB al own W i w (fun g => g ∈ bl al k (valB (l.take n).toArray a k)) v → K (a.put o.dst v) w') →
      (o.dst = none → ∀ (k : Nat) (u : Value) (w' : World) (row : Option Nat), k < n → liveAt die L k → own k = true → die k = i → w.grownBy w' row → (∀ g, row = some g → g ∈ bl al k (valB (l.take n).toArray a k)) →
        F i (valB (l.take n).toArray a i) w' → (∀ g ∈ bl al i (valB (l.take n).toArray a i), g ∈ bl al k (valB (l.take n).toArray a k)) → K (a.put o.dst u) w') →
      ((∃ d, o.dst = some d) → ∀ (v : Value) (w' : World), w.grownBy w' none → F i v w' → (∀ g ∈ bl al i v, g < w'.heap.size) → FreshB al own W i w (fun g => ∃ k, k < n ∧ liveAt die L k ∧ own k = true ∧ die k = i ∧ g ∈ bl al k (valB (l.take n).toArray a k)) v → K (a.put o.dst v) w') →
      (Region.wanted o (yielded l.toArray a.tmps) = true ∧ Oper.wp P o a w K Q) ∨ (Region.wanted o (yielded l.toArray a.tmps) = false ∧ K (a.put o.dst undef) w))
    (hend : ∀ (a : Act) (w : World), W.grownBy w none →
      (∀ k, k < n → n ≤ die k → F k (valB (l.take n).toArray a k) w ∧ (own k = true → ∀ g ∈ bl al k (valB (l.take n).toArray a k), W.heap.size ≤ g)) →
      (∀ k j, k < n → j < n → k ≠ j → n ≤ die k → n ≤ die j → own k = true → ∀ g ∈ bl al j (valB (l.take n).toArray a j), g ∉ bl al k (valB (l.take n).toArray a k)) →
      a = { tmps := (fill S (fun t => a.tmps.getD t undef) 0 a0.tmps.toList).toArray, defers := a0.defers } → wpList P l.toArray Q (l.drop n) a w) :
    (Code.region id l.toArray true).wp P Q a0 W := by
  have hsz : (l.take n).toArray.size = n := by simp; omega
  refine wp_region_invC (I := RepB al (l.take n).toArray die own F a0 W) n hm hn hs hc hsq (regionOkB_back hok) (fun L a w h => by rw [h.size, hsz]) (by have := repb_start (al := al) (ops := (l.take n).toArray) (die := die) (own := own) (F := F) (a0 := a0) (W := W); rwa [hsz] at this) ?_ ?_
  · intro i o L a w K hi ho hrep hLi hpre hK
    have hout : ∀ k : Nat, n ≤ k → L.getD k false = false := by
      intro k hk
      have hk' : ¬ k < L.size := by rw [hrep.size]; omega
      simp [Array.getD, hk']
    refine hstep i o L a w K hi ho hrep.old hLi hout ?_ ?_ ?_ ?_ ?_ ?_ ?_ ?_
    · intro j hj
      obtain ⟨n', hn', hb, rfl⟩ : ∃ (n : Nat) (h : n < o.after.size), Region.binds Region.Mode.any o.after[n] = true ∧ o.after[n].on = j := by simpa using hj
      exact hpre _ (Array.getElem_mem hn') hb
    · intro t ht
      exact hrep.frame t fun k _ o' ho' e => by
        have := (regionOkB_dst hok ho' e).2.1
        rw [ht] at this
        cases this
    · intro k hk hl
      exact (hrep.item k (by omega) hl).1
    · exact fun k j hk hj => hrep.apart k j (by omega) (by omega)
    · intro hd v w' hg hv hlt hnew
      exact hK _ _ (repb_step hok hN hF hrep (by omega) hLi ho hpre hg (.inl hd) (fun g e => by cases e) hv hlt (fun g hgm => (hnew g hgm).imp (fun x => x) fun h => .inr (h.resolve_left (fun x => x))) v (fun _ => rfl))
    · intro hd k v w' row hk hl hok' hdk hg hrow hv hlt hnew
      exact hK _ _ (repb_step hok hN hF hrep (by omega) hLi ho hpre hg (.inl hd) (fun g e => ⟨k, by omega, hl, hok', hdk, hrow g e⟩) hv hlt (fun g hgm => (hnew g hgm).imp (fun x => x) fun h => h.imp (fun h => ⟨k, by omega, hl, hok', hdk, h⟩) (fun x => x)) v (fun _ => rfl))
    · intro hd k u w' row hk hl hok' hdk hg hrow hv hsub
      exact hK _ _ (repb_step hok hN hF hrep (by omega) hLi ho hpre hg (.inr ⟨hd, rfl⟩) (fun g e => ⟨k, by omega, hl, hok', hdk, hrow g e⟩) hv (fun g hgm => Nat.lt_of_lt_of_le ((hrep.item k (by omega) hl).2.1 g (hsub g hgm)) hg.size) (fun g hgm => .inr (.inl ⟨k, by omega, hl, hok', hdk, hsub g hgm⟩)) u (fun h => by obtain ⟨d, h⟩ := h; rw [hd] at h; cases h))
    · intro hd v w' hg hv hlt hnew
      exact hK _ _ (repb_step hok hN hF hrep (by omega) hLi ho hpre hg (.inl hd) (fun g e => by cases e) hv hlt (fun g hgm => (hnew g hgm).imp (fun x => x) fun h => h.imp (fun ⟨k, hk, hl, hok', hdk, h⟩ => ⟨k, by omega, hl, hok', hdk, h⟩) (fun x => x)) v (fun _ => rfl))
  · intro L a w hl hrep
    have hlive : ∀ k, k < n → n ≤ die k → liveAt die L k := fun k hk hd => ⟨hl k hk, by
      have : ¬ die k < L.size := by rw [hrep.size]; omega
      simp [Array.getD, this]⟩
    exact hend a w hrep.old (fun k hk hd => ⟨(hrep.item k (by omega) (hlive k hk hd)).1, (hrep.item k (by omega) (hlive k hk hd)).2.2⟩)
      (fun k j hk hj hkj hdk hdj hok => hrep.apart k j (by omega) (by omega) hkj (hlive k hk hdk) (hlive j hj hdj) hok) (repb_frame hok hrep)
end
end Go.Proofs.YtmfnncfiaaeknaaDoor
