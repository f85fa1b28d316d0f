/- A region with guards that draws its order; more kinds of operations. -/
import Derived.Test.YthccbbdabfpjcaaOps
import Derived.Test.YthccbbdabfpjcaaRoomy
namespace Go.Proofs.Ythccbbdabfpjcaa
open Go.RowKit

section
variable {ops : Array Oper} {die : Nat → Nat} {own : Nat → Bool} {F : Nat → Value → World → Prop} {a0 : Act} {W : World}
variable {P : Program}
/-- The same, each step's end told by what it leaves. -/
theorem wp_region_go2 {N : Nat} {S : Nat → Bool} {id : Nat} {Q : Exit → Act → World → Prop} (hm : P.follows .mixedOrders = true) (hok : regionOk ops N S = true) (hN : N ≤ a0.tmps.size) (hF : ∀ k, Lasts (F k))
    (hstep : ∀ (i : Nat) (o : Oper) (L : Array Bool) (a : Act) (w : World) (K : Act → World → Prop), i < ops.size → ops[i]? = some o → W.grownBy w none → L.getD i false = false → (∀ k, ops.size ≤ k → L.getD k false = false) →
      (∀ j, (o.after.toList.any fun e => Region.binds .any e && e.on == j) = true → L.getD j false = true) →
      (∀ t, S t = false → a.eval (.tmp t) = a0.eval (.tmp t)) →
      (∀ k, k < ops.size → liveAt die L k → F k (a.eval (.tmp (slotOf ops k))) w) →
      (∀ (v : Value) (w' : World), w.grownBy w' none → F i v w' → (∀ g, v.ownBlock = some g → g < w'.heap.size) → Fresh own W i w none v → K (a.put o.dst v) w') →
      (∀ (k : Nat) (v : Value) (w' : World), k < ops.size → liveAt die L k → own k = true → die k = i → w.grownBy w' (a.eval (.tmp (slotOf ops k))).ownBlock →
        F i v w' → (∀ g, v.ownBlock = some g → g < w'.heap.size) → Fresh own W i w (a.eval (.tmp (slotOf ops k))).ownBlock v → K (a.put o.dst v) w') →
      Region.wanted o (yielded ops a.tmps) = true ∧ Oper.wp P o a w K Q)
    (hend : ∀ (a : Act) (w : World), W.grownBy w none → (∀ k, k < ops.size → ops.size ≤ die k → F k (a.eval (.tmp (slotOf ops k))) w ∧ (own k = true → ∀ g, (a.eval (.tmp (slotOf ops k))).ownBlock = some g → W.heap.size ≤ g)) →
      a = { tmps := (fill S (fun t => a.tmps.getD t undef) 0 a0.tmps.toList).toArray, defers := a0.defers } → Q .normal a w) :
    (Code.region id ops true).wp P Q a0 W := by
  refine wp_region_rep (die := die) (own := own) (F := F) hm (regionOk_back hok) rep_start ?_ ?_
  · intro i o L a w K hi ho hrep hLi hpre hK
    have hout : ∀ k : Nat, ops.size ≤ k → L.getD k false = false := by
      intro k hk
      have hk' : ¬ k < L.size := by rw [hrep.size]; omega
      simp [Array.getD, hk']
    refine hstep i o L a w K hi ho hrep.old hLi hout ?_ ?_ ?_ ?_ ?_
    · intro j hj
      obtain ⟨n, hn, hb, rfl⟩ : ∃ (n : Nat) (h : n < o.after.size), Region.binds Region.Mode.any o.after[n] = true ∧ o.after[n].on = j := by simpa using hj
      exact hpre _ (Array.getElem_mem hn) hb
    · intro t ht
      exact hrep.frame t fun k hk e => by
        have := (regionOk_slot hok hk).2.1
        rw [e, ht] at this
        cases this
    · intro k hk hl
      exact (hrep.item k hk hl).1
    · intro v w' hg hv hlt hnew
      exact hK _ _ (rep_go hok hN hF hrep hi ho hg (.inl rfl) hv hlt hnew)
    · intro k v w' hk hl hok' hd hg hv hlt hnew
      exact hK _ _ (rep_go hok hN hF hrep hi ho hg (.inr ⟨k, hk, hl, hok', hd, rfl⟩) hv hlt hnew)
  · intro L a w hl hrep
    refine hend a w hrep.old (fun k hk hd => ?_) (rep_frame hok hrep)
    have hlive : liveAt die L k := ⟨hl k hk, by
      have : ¬ die k < L.size := by rw [hrep.size]; omega
      simp [Array.getD, this]⟩
    exact ⟨(hrep.item k hk hlive).1, (hrep.item k hk hlive).2.2⟩
end

theorem wanted_of {ops : Array Oper} {o : Oper} {a : Act} {j s : Nat} (hg : o.guard = some (j, true)) (hd : (ops[j]?).bind (·.dst) = some s) (hv : a.eval (.tmp s) = .bool true) : Region.wanted o (yielded ops a.tmps) = true := by
  have h : a.tmps.getD s undef = .bool true := hv
  have h' : a.tmps[s]? = some (.bool true) := by
    by_cases hs : s < a.tmps.size
    · simp [Array.getD, hs] at h
      rw [Array.getElem?_eq_getElem hs, h]
    · simp [Array.getD, hs] at h
      cases h
  simp [Region.wanted, hg, yielded, hd, h']
theorem Fresh.old {own : Nat → Bool} {W : World} {i : Nat} {w : World} {row : Option Nat} {v : Value} (hi : own i = false) (h : ∀ g, v.ownBlock = some g → g < W.heap.size) : Fresh own W i w row v := by
  cases e : v.ownBlock with
  | none => exact .inl e
  | some g => exact .inr (.inr (.inr ⟨hi, g, e, h g e⟩))

section
variable {P : Program} {o : Oper} {a : Act} {w : World} {K : Act → World → Prop} {Q : Exit → Act → World → Prop}
theorem wp_pick {c x y : Operand} (ho : o.op = .pick c x y) (hc : a.eval c = .bool true) (h : K (a.put o.dst (a.eval x)) w) : Oper.wp P o a w K Q := by
  unfold Oper.wp execOp
  simp [ho, hc, asBool]
  exact h
end
end Go.Proofs.Ythccbbdabfpjcaa
