/- Rows of pairs told by what is in them: set in any order, taken out. -/
import Derived.Test.YtehbhjkceemmcaaKvK
namespace Go.Proofs.Ytehbhjkceemmcaa
open Go.RowKit

/-! ## Rows told by what is in them -/

theorem rise_set {ps : List Kv} (h : Rises ps) (p : Kv) : Rises (setL ps p) := by
  refine List.pairwise_append.2 ⟨List.Pairwise.filter _ h, List.pairwise_cons.2 ⟨fun q hq => (List.mem_filter.1 hq).2, List.Pairwise.filter _ h⟩, fun a ha b hb => ?_⟩
  have h1 := (List.mem_filter.1 ha).2
  rcases List.mem_cons.1 hb with rfl | hb
  · exact h1
  · exact kl_trans h1 (List.mem_filter.1 hb).2
theorem rise_del {ps : List Kv} (h : Rises ps) (k : List UInt8) : Rises (delL ps k) := by
  rw [← notL_del h]
  exact List.Pairwise.filter _ h
theorem mem_set {ps : List Kv} {p q : Kv} : q ∈ setL ps p ↔ q = p ∨ (q ∈ ps ∧ q.1 ≠ p.1) := by
  unfold setL loL hiL
  rw [List.mem_append, List.mem_cons, List.mem_filter, List.mem_filter]
  constructor
  · rintro (⟨h1, h2⟩ | rfl | ⟨h1, h2⟩)
    · exact .inr ⟨h1, fun e => by rw [e, kl_irr] at h2; cases h2⟩
    · exact .inl rfl
    · exact .inr ⟨h1, fun e => by rw [e, kl_irr] at h2; cases h2⟩
  · rintro (rfl | ⟨h1, h2⟩)
    · exact .inr (.inl rfl)
    · cases h : kl q.1 p.1
      · cases h' : kl p.1 q.1
        · exact absurd (kl_tri h h') h2
        · exact .inr (.inr ⟨h1, rfl⟩)
      · exact .inl ⟨h1, rfl⟩
theorem set_le (ps : List Kv) (p : Kv) : (setL ps p).length ≤ ps.length + 1 := by
  have h : (setL ps p).Sublist (loL ps p.1 ++ p :: hiL ps p.1) := List.Sublist.refl _
  have e : (loL ps p.1).length + (hiL ps p.1).length ≤ ps.length := by
    unfold loL hiL
    induction ps with
    | nil => simp
    | cons a l ih =>
      have ih := ih (List.Sublist.refl _)
      rw [List.filter_cons, List.filter_cons]
      cases h1 : kl a.1 p.1
      · cases h2 : kl p.1 a.1 <;> simp <;> omega
      · rw [kl_asymm h1]; simp; omega
  unfold setL
  rw [List.length_append, List.length_cons]; omega
theorem rises_ext : ∀ {a b : List Kv}, Rises a → Rises b → (∀ q, q ∈ a ↔ q ∈ b) → a = b
  | [], [], _, _, _ => rfl
  | [], y :: b, _, _, h => by have := (h y).2 (List.mem_cons_self ..); cases this
  | x :: a, [], _, _, h => by have := (h x).1 (List.mem_cons_self ..); cases this
  | x :: a, y :: b, ha, hb, h => by
    obtain ⟨a1, a2⟩ := List.pairwise_cons.1 ha
    obtain ⟨b1, b2⟩ := List.pairwise_cons.1 hb
    have hxy : x = y := by
      rcases List.mem_cons.1 ((h x).1 (List.mem_cons_self ..)) with e | hx
      · exact e
      · rcases List.mem_cons.1 ((h y).2 (List.mem_cons_self ..)) with e | hy
        · exact e.symm
        · have h1 := b1 x hx
          have h2 := a1 y hy
          rw [kl_asymm h1] at h2; cases h2
    subst hxy
    have hr : ∀ q, q ∈ a ↔ q ∈ b := fun q => by
      constructor
      · intro hq
        rcases List.mem_cons.1 ((h q).1 (List.mem_cons_of_mem _ hq)) with e | hq'
        · subst e
          have := a1 q hq
          rw [kl_irr] at this; cases this
        · exact hq'
      · intro hq
        rcases List.mem_cons.1 ((h q).2 (List.mem_cons_of_mem _ hq)) with e | hq'
        · subst e
          have := b1 q hq
          rw [kl_irr] at this; cases this
        · exact hq'
    rw [rises_ext a2 b2 hr]
/-- Keys apart. -/
def Apart (ps : List Kv) : Prop := ps.Pairwise fun a b => a.1 ≠ b.1
theorem Rises.apart {ps : List Kv} (h : Rises ps) : Apart ps := List.Pairwise.imp (fun {a b} hab e => by rw [e, kl_irr] at hab; cases hab) h
theorem Apart.perm {a b : List Kv} (h : a.Perm b) (hb : Apart b) : Apart a := List.Pairwise.perm hb h.symm fun hxy e => hxy e.symm
theorem Apart.at {ps : List Kv} (h : Apart ps) {j : Nat} (hj : j < ps.length) : ∀ q ∈ ps.take j, q.1 ≠ ps[j].1 := by
  intro q hq
  obtain ⟨i, hi, rfl⟩ := List.getElem_of_mem hq
  rw [List.getElem_take]
  rw [List.length_take] at hi
  exact List.pairwise_iff_getElem.1 h i j (by omega) hj (by omega)
/-- Set with some value, then with its own: the next of the row. -/
theorem set_twice {xs tl : List Kv} {j : Nat} (hj : j < tl.length) (ha : Apart tl) (hx : ∀ q, q ∈ xs ↔ q ∈ tl.take j) (t : List UInt8) : ∀ q, q ∈ setL (setL xs (tl[j].1, t)) tl[j] ↔ q ∈ tl.take (j + 1) := by
  intro q
  rw [mem_set, mem_set, List.take_succ_eq_append_getElem hj, List.mem_append, List.mem_singleton, hx]
  constructor
  · rintro (rfl | ⟨rfl | ⟨h1, -⟩, h2⟩)
    · exact .inr rfl
    · exact absurd rfl h2
    · exact .inl h1
  · rintro (h | rfl)
    · exact .inr ⟨.inr ⟨h, ha.at hj q h⟩, ha.at hj q h⟩
    · exact .inl rfl
theorem del_set {ps : List Kv} (h : Rises ps) {p : Kv} (hn : ∀ q ∈ ps, q.1 ≠ p.1) : delL (setL ps p) p.1 = ps := by
  refine rises_ext (rise_del (rise_set h p) p.1) h fun q => ?_
  rw [← notL_del (rise_set h p)]
  unfold notL
  rw [List.mem_filter, mem_set]
  constructor
  · rintro ⟨rfl | ⟨h1, -⟩, h2⟩
    · simp at h2
    · exact h1
  · intro hq
    exact ⟨.inr ⟨hq, hn q hq⟩, by simpa using hn q hq⟩
theorem move_perm {tl : List Kv} {q : Nat} (hq : q < tl.length) : (((([] : List Kv) ++ [tl[q]]) ++ tl.take q) ++ tl.drop (q + 1)).Perm tl := by
  have e : tl = tl.take q ++ tl[q] :: tl.drop (q + 1) := by rw [← List.drop_eq_getElem_cons hq, List.take_append_drop]
  have h2 : (tl.take q ++ tl[q] :: tl.drop (q + 1)).Perm (tl[q] :: (tl.take q ++ tl.drop (q + 1))) := List.perm_middle
  rw [← e] at h2
  rw [List.nil_append, List.append_assoc]
  exact h2.symm

end Go.Proofs.Ytehbhjkceemmcaa
