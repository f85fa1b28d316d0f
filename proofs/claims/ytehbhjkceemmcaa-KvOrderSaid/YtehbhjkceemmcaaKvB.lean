/- Rows of pairs that rise: where a key stands; the contracts of package kv's search. -/
import Derived.Test.YtehbhjkceemmcaaKvA
import Derived.Deep.LoopGhost
namespace Go.Proofs.Ytehbhjkceemmcaa
open Go.RowKit

/-! ## Rows that rise, as lists -/

def Rises (ps : List Kv) : Prop := ps.Pairwise fun p q => kl p.1 q.1 = true
/-- The pairs below a key, those above it. -/
def loL (ps : List Kv) (k : List UInt8) : List Kv := ps.filter fun p => kl p.1 k
def hiL (ps : List Kv) (k : List UInt8) : List Kv := ps.filter fun p => kl k p.1
/-- The key's own pair, if there is one. -/
def atL (ps : List Kv) (k : List UInt8) : List Kv := ps.filter fun p => p.1 == k
theorem kvparts_of : ∀ {ps : List Kv} (_ : Rises ps) (k : List UInt8), ps = loL ps k ++ (atL ps k ++ hiL ps k)
  | [], _, _ => rfl
  | p :: ps, h, k => by
    obtain ⟨h1, h2⟩ := List.pairwise_cons.1 h
    have ih := kvparts_of h2 k
    cases hp : kl p.1 k
    · have hlo : loL ps k = [] := List.filter_eq_nil_iff.2 fun q hq e => by
        rw [kl_trans (h1 q hq) e] at hp; cases hp
      have hlo' : loL (p :: ps) k = [] := by show List.filter _ _ = _; rw [List.filter_cons]; simp only [hp]; exact hlo
      rw [hlo', List.nil_append]
      cases hk : kl k p.1
      · obtain e := kl_tri hp hk
        have hat : atL ps k = [] := List.filter_eq_nil_iff.2 fun q hq e' => by
          have := h1 q hq
          rw [beq_iff_eq.1 e', e, kl_irr] at this; cases this
        rw [hlo, hat, List.nil_append, List.nil_append] at ih
        have e1 : atL (p :: ps) k = p :: atL ps k := by show List.filter _ _ = _; rw [List.filter_cons]; simp only [e, beq_self_eq_true]; rfl
        have e2 : hiL (p :: ps) k = hiL ps k := by show List.filter _ _ = _; rw [List.filter_cons]; simp only [hk]; rfl
        rw [e1, e2, hat, ← ih]; rfl
      · have hat : atL (p :: ps) k = [] := List.filter_eq_nil_iff.2 fun q hq e' => by
          have e'' := beq_iff_eq.1 e'
          rcases List.mem_cons.1 hq with rfl | hq
          · rw [e'', kl_irr] at hk; cases hk
          · have := kl_trans hk (h1 q hq)
            rw [e'', kl_irr] at this; cases this
        rw [hat, List.nil_append]
        exact (List.filter_eq_self.2 fun q hq => by
          rcases List.mem_cons.1 hq with rfl | hq
          · exact hk
          · exact kl_trans hk (h1 q hq)).symm
    · have e1 : loL (p :: ps) k = p :: loL ps k := by show List.filter _ _ = _; rw [List.filter_cons]; simp only [hp]; rfl
      have hk := kl_asymm hp
      have hne : (p.1 == k) = false := by
        rw [beq_eq_false_iff_ne]; intro e; rw [e, kl_irr] at hp; cases hp
      have e2 : atL (p :: ps) k = atL ps k := by show List.filter _ _ = _; rw [List.filter_cons]; simp only [hne]; rfl
      have e3 : hiL (p :: ps) k = hiL ps k := by show List.filter _ _ = _; rw [List.filter_cons]; simp only [hk]; rfl
      rw [e1, e2, e3, List.cons_append, ← ih]
theorem atL_one : ∀ {ps : List Kv} (_ : Rises ps) (k : List UInt8), atL ps k = [] ∨ ∃ v, atL ps k = [(k, v)]
  | [], _, _ => .inl rfl
  | p :: ps, h, k => by
    obtain ⟨h1, h2⟩ := List.pairwise_cons.1 h
    cases hp : p.1 == k
    · have e : atL (p :: ps) k = atL ps k := by show List.filter _ _ = _; rw [List.filter_cons]; simp only [hp]; rfl
      rw [e]
      exact atL_one h2 k
    · have hk := beq_iff_eq.1 hp
      have hat : atL ps k = [] := List.filter_eq_nil_iff.2 fun q hq e' => by
        have := h1 q hq
        rw [beq_iff_eq.1 e', hk, kl_irr] at this; cases this
      refine .inr ⟨p.2, ?_⟩
      have e : atL (p :: ps) k = p :: atL ps k := by show List.filter _ _ = _; rw [List.filter_cons]; simp only [hp]; rfl
      rw [e, hat, ← hk]
/-- How many are below; is there one of that key? -/
def lowN (ps : List Kv) (k : List UInt8) : Nat := (loL ps k).length
def hasK (ps : List Kv) (k : List UInt8) : Bool := !(atL ps k).isEmpty
theorem lowN_le (ps : List Kv) (k : List UInt8) : lowN ps k ≤ ps.length := List.length_filter_le ..
section
variable {ps : List Kv} (h : Rises ps) (k : List UInt8)
include h
theorem take_low : ps.take (lowN ps k) = loL ps k := by
  have e := kvparts_of h k
  have e2 : (loL ps k ++ (atL ps k ++ hiL ps k)).take (lowN ps k) = loL ps k := List.take_left' rfl
  rwa [← e] at e2
theorem drop_low : ps.drop (lowN ps k) = atL ps k ++ hiL ps k := by
  have e := kvparts_of h k
  have e2 : (loL ps k ++ (atL ps k ++ hiL ps k)).drop (lowN ps k) = atL ps k ++ hiL ps k := List.drop_left' rfl
  rwa [← e] at e2
theorem drop_past : ps.drop (lowN ps k + (atL ps k).length) = hiL ps k := by
  rw [← List.drop_drop, drop_low h, List.drop_left]
theorem len_parts : ps.length = lowN ps k + ((atL ps k).length + (hiL ps k).length) := by
  have e := congrArg List.length (kvparts_of h k)
  rwa [List.length_append, List.length_append] at e
theorem below_low {i : Nat} (hi : i < lowN ps k) (hl : i < ps.length) : kl ps[i].1 k = true := by
  have e := take_low h k
  have hm : ps[i] ∈ ps.take (lowN ps k) := by
    rw [List.mem_iff_getElem]
    exact ⟨i, by rw [List.length_take]; omega, List.getElem_take ..⟩
  rw [e] at hm
  exact (List.mem_filter.1 hm).2
theorem above_low {i : Nat} (hi : lowN ps k ≤ i) (hl : i < ps.length) : kl ps[i].1 k = false := by
  have e := drop_low h k
  have hm : ps[i] ∈ ps.drop (lowN ps k) := by
    rw [List.mem_iff_getElem]
    refine ⟨i - lowN ps k, by rw [List.length_drop]; omega, ?_⟩
    rw [List.getElem_drop]
    congr 1
    omega
  rw [e, List.mem_append] at hm
  rcases hm with hm | hm
  · have := (List.mem_filter.1 hm).2
    rw [beq_iff_eq.1 this, kl_irr]
  · exact kl_asymm (List.mem_filter.1 hm).2
theorem low_of {n : Nat} (hn : n ≤ ps.length) (h1 : ∀ i (hl : i < ps.length), i < n → kl ps[i].1 k = true) (h2 : ∀ i (hl : i < ps.length), n ≤ i → kl ps[i].1 k = false) : n = lowN ps k := by
  have hle := lowN_le ps k
  rcases Nat.lt_trichotomy n (lowN ps k) with hlt | rfl | hgt
  · have := below_low h k hlt (by omega)
    rw [h2 n (by omega) (Nat.le_refl _)] at this; cases this
  · rfl
  · have := above_low h k (Nat.le_refl _) (i := lowN ps k) (by omega)
    rw [h1 _ (by omega) hgt] at this; cases this
theorem has_at (hl : lowN ps k < ps.length) : hasK ps k = decide (ps[lowN ps k].1 = k) := by
  have e := drop_low h k
  have e2 := List.drop_eq_getElem_cons hl
  rw [e] at e2
  rcases atL_one h k with h0 | ⟨v, h0⟩
  · rw [h0, List.nil_append] at e2
    have hm : ps[lowN ps k] ∈ hiL ps k := by rw [e2]; exact List.mem_cons_self ..
    have hk := (List.mem_filter.1 hm).2
    unfold hasK
    rw [h0]
    symm
    rw [List.isEmpty_nil, Bool.not_true, decide_eq_false_iff_not]
    intro e3
    rw [e3, kl_irr] at hk; cases hk
  · rw [h0] at e2
    have e3 := (List.cons.inj e2).1
    unfold hasK
    rw [h0, ← e3]
    simp
theorem has_end (hl : ¬ lowN ps k < ps.length) : hasK ps k = false := by
  have e := len_parts h k
  have : atL ps k = [] := List.eq_nil_of_length_eq_zero (by omega)
  unfold hasK
  rw [this]; rfl
theorem len_at : (atL ps k).length = if hasK ps k then 1 else 0 := by
  unfold hasK
  rcases atL_one h k with h0 | ⟨v, h0⟩ <;> rw [h0] <;> rfl
end

/-! ## The search -/

theorem run_cmp (a b : List UInt8) (w : World) : (callFunc 37 #[.string ⟨a.toArray⟩, .string ⟨b.toArray⟩]).run Try.prog w = .ok (.value (.int .i64 (Lib.compareBytes a b))) w := by
  rw [run_callFunc_extern Try.func37 (by kernel_rfl) (by kernel_rfl) (by kernel_rfl) (e := Extern.BytealgCompare.compare) (by kernel_rfl), Lib.run_compareString]
  rfl
theorem Cmp_in (a b : List UInt8) (w : World) : Calls Try.prog 36 #[.string ⟨a.toArray⟩, .string ⟨b.toArray⟩] w fun e w' => e = .returned (.int .i64 (Lib.compareBytes a b)) ∧ w = w' := by
  have hc := run_cmp a b
  go_enter Try.func36, Try.ntmps36
  go_wp2
  go_ret
  exact ⟨rfl, rfl⟩
theorem Compare_any (a b : List UInt8) (w : World) : Calls Try.prog 35 #[.string ⟨a.toArray⟩, .string ⟨b.toArray⟩] w fun e w' => e = .returned (.int .i64 (Lib.compareBytes a b)) ∧ w = w' := by
  go_enter Try.func35, Try.ntmps35
  go_wp2_with (go_at_call 36; refine (Cmp_in _ _ _).mono ?_; rintro e w' ⟨rfl, rfl⟩)
  go_ret
  exact ⟨rfl, rfl⟩
theorem Against_any (p : Kv) (k : List UInt8) (w : World) : Calls Try.prog 32 #[.agg #[.string ⟨p.1.toArray⟩, .string ⟨p.2.toArray⟩], .string ⟨k.toArray⟩] w fun e w' => e = .returned (.int .i64 (Lib.compareBytes p.1 k)) ∧ w.grownBy w' none := by
  go_enter Try.func32, Try.ntmps32
  go_wp2_with (go_at_call 35; refine (Compare_any _ _ _).mono ?_; rintro e w' ⟨rfl, rfl⟩)
  go_ret
  exact ⟨rfl, grown_alloc (grown_refl _ _) _⟩
end Go.Proofs.Ytehbhjkceemmcaa
