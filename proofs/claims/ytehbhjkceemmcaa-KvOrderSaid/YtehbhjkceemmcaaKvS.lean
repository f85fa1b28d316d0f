/- Leaves of pairs; ranges that meet; rows told by what is in them. -/
import Derived.Test.YtehbhjkceemmcaaKvO
namespace Go.Proofs.Ytehbhjkceemmcaa
open Go.RowKit

/-- A pair's leaf. -/
def leafL (p : Kv) : List UInt8 := textsL [p.1, p.2]
theorem leafL_len (p : Kv) : (leafL p).length ≤ p.1.length + p.2.length + 12 := by
  have h1 := putL_len p.1.length
  have h2 := putL_len p.2.length
  simp only [leafL, textsL, textL, List.flatMap_cons, List.flatMap_nil, List.append_nil, List.length_append]
  omega
theorem lit_2s (a b : List UInt8) (w : World) : (Instr.buildSlice 51 2 #[(0, .string ⟨a.toArray⟩), (1, .string ⟨b.toArray⟩)]).run Try.prog w = .ok (.slice (some ⟨w.heap.size, 0, none⟩) 2 2) (w.alloc (.cells #[.string ⟨a.toArray⟩, .string ⟨b.toArray⟩] 9)) := by kernel_rfl
theorem Leaf_any (p : Kv) (w : World) (h1 : p.1.length ≤ 100000) (h2 : p.2.length ≤ 100000) : Calls Try.prog 22 #[.agg #[.string ⟨p.1.toArray⟩, .string ⟨p.2.toArray⟩]] w fun e w' => ∃ v', e = .returned v' ∧ OwnB w' v' (leafL p) ∧ w.grownBy w' none ∧ (∀ g, v'.ownBlock = some g → w.heap.size ≤ g) := by
  have s1 := lit_2s p.1 p.2
  have hT := fun (W : World) (g : Nat) (hr : RdS W (some ⟨g, 0, none⟩) [p.1, p.2]) => Text_any (some ⟨g, 0, none⟩) 2 [p.1, p.2] W hr (by simp) (by simp [h1, h2])
  go_enter Try.func22, Try.ntmps22
  go_wp2_with (go_at_call 30; refine (hT _ _ (rd_row (cs := [sv p.1, sv p.2]) (alloc_atQ (by simp)))).mono ?_; rintro e w1 ⟨v1, rfl, ho, hg⟩)
  go_ret
  have h3 := hg.new
  exact ⟨_, rfl, ho, grown_none (grown_alloc (grown_alloc (grown_refl _ _) _) _) hg.nil, fun g e => by have := h3 g e; simp at this; omega⟩
/-- Short pairs' leaves tell them apart. -/
theorem leaf_inj {p q : Kv} (h1 : p.1.length < 128) (h2 : p.2.length < 128) (h3 : q.1.length < 128) (h4 : q.2.length < 128) (h : leafL p = leafL q) : p = q := by
  have hp : ∀ n : Nat, n < 128 → putL (n : Int) = [UInt8.ofNat n] := fun n hn => by rw [putL_some (by omega), putN_small hn]
  have hb : ∀ m n : Nat, m < 128 → n < 128 → UInt8.ofNat m = UInt8.ofNat n → m = n := fun m n hm hn e => by
    have := congrArg UInt8.toNat e
    rw [UInt8.toNat_ofNat', UInt8.toNat_ofNat'] at this
    omega
  simp only [leafL, textsL, textL, List.flatMap_cons, List.flatMap_nil, List.append_nil, hp _ h1, hp _ h2, hp _ h3, hp _ h4, List.cons_append, List.nil_append, List.cons.injEq] at h
  obtain ⟨e1, h⟩ := h
  obtain ⟨e2, h⟩ := List.append_inj h (hb _ _ h1 h3 e1)
  simp only [List.cons.injEq] at h
  exact Prod.ext e2 h.2
theorem leaf_same {ps : List Kv} (hk : Kept ps) {i j : Nat} (hi : i < ps.length) (hj : j < ps.length) : decide (leafL ps[i] = leafL ps[j]) = decide (i = j) := by
  by_cases e : i = j
  · subst e; simp
  · rw [decide_eq_false e, decide_eq_false_iff_not]
    intro h
    have m1 := keysK_may _ (hk.1.subset (List.mem_map_of_mem (List.getElem_mem hi)))
    have m2 := keysK_may _ (hk.1.subset (List.mem_map_of_mem (List.getElem_mem hj)))
    have m3 := hk.2 _ (List.getElem_mem hi)
    have m4 := hk.2 _ (List.getElem_mem hj)
    have e2 := leaf_inj (by omega) (by omega) (by omega) (by omega) h
    rcases Nat.lt_or_gt_of_ne e with h' | h'
    · have := List.pairwise_iff_getElem.1 hk.rises i j hi hj h'
      rw [e2, kl_irr] at this; cases this
    · have := List.pairwise_iff_getElem.1 hk.rises j i hj hi h'
      rw [e2, kl_irr] at this; cases this

/-! ## Ranges -/
theorem lowN_mono {ps : List Kv} {x y : List UInt8} (h : kl y x = false) : lowN ps x ≤ lowN ps y := by
  show (ps.filter _).length ≤ (ps.filter _).length
  rw [← List.countP_eq_length_filter, ← List.countP_eq_length_filter]
  exact List.countP_mono_left fun p _ hp => kl_lt_of hp h
theorem range_meet {ps : List Kv} (hs : Rises ps) {x y z : List UInt8} (h1 : kl y x = false) (h2 : kl z y = false) : rangeL ps x y ++ rangeL ps y z = rangeL ps x z := by
  have m1 := lowN_mono (ps := ps) h1
  have m2 := lowN_mono (ps := ps) h2
  rw [← range_cut hs x y, ← range_cut hs y z, ← range_cut hs x z]
  generalize lowN ps x = a at *
  generalize lowN ps y = b at *
  generalize lowN ps z = c at *
  rw [Nat.max_eq_right m1, Nat.max_eq_right m2, Nat.max_eq_right (Nat.le_trans m1 m2)]
  have e : c - a = (b - a) + (c - b) := by omega
  rw [e, List.take_add, List.drop_drop]
  congr 3
  omega
theorem rangeL_next {ps : List Kv} {k : Nat} (h : k < ps.length) (x y : List UInt8) : rangeL (ps.take (k + 1)) x y = rangeL (ps.take k) x y ++ (if (!kl ps[k].1 x && kl ps[k].1 y) = true then [ps[k]] else []) := by
  rw [List.take_succ_eq_append_getElem h]
  unfold rangeL
  rw [List.filter_append, List.filter_cons]
  cases (!kl ps[k].1 x && kl ps[k].1 y) <;> rfl
theorem rangeL_split (ps : List Kv) (k : Nat) (x y : List UInt8) : rangeL ps x y = rangeL (ps.take k) x y ++ rangeL (ps.drop k) x y := by
  unfold rangeL
  rw [← List.filter_append, List.take_append_drop]
/-- The range's pair at the place of one of the row's. -/
theorem rangeL_at {ps : List Kv} {k : Nat} (h : k < ps.length) {x y : List UInt8} (hin : (!kl ps[k].1 x && kl ps[k].1 y) = true) : ∃ hl : (rangeL (ps.take k) x y).length < (rangeL ps x y).length, (rangeL ps x y)[(rangeL (ps.take k) x y).length] = ps[k] := by
  have e := rangeL_split ps (k + 1) x y
  rw [rangeL_next h, if_pos hin] at e
  refine ⟨by rw [e]; simp, ?_⟩
  have h2 : (rangeL ps x y)[(rangeL (ps.take k) x y).length]? = some ps[k] := by
    rw [e, List.append_assoc, List.getElem?_append_right (Nat.le_refl _)]
    simp
  exact (List.getElem?_eq_some_iff.1 h2).2
theorem leq_str (a b : List UInt8) (t : TypeId) : binOp .leq t (.string ⟨a.toArray⟩) (.string ⟨b.toArray⟩) = pure (.bool (!kl b a)) := by
  rw [binOp_string_leq, Lib.toList_data, Lib.toList_data]
  congr 2
  show (kl a b || a == b) = !kl b a
  cases h : kl a b
  · cases h' : kl b a
    · rw [kl_tri h h']; simp
    · have : (a == b) = false := by rw [beq_eq_false_iff_ne]; rintro rfl; rw [kl_irr] at h'; cases h'
      rw [this]; rfl
  · rw [kl_asymm h]; rfl
end Go.Proofs.Ytehbhjkceemmcaa
