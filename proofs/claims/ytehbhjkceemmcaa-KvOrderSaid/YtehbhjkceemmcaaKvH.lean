/- Package kv: Range, Right, Leaf. -/
import Derived.Test.YtehbhjkceemmcaaKvG
import Derived.Test.YtehbhjkceemmcaaVintN
namespace Go.Proofs.Ytehbhjkceemmcaa
open Go.RowKit

def rangeL (ps : List Kv) (s e : List UInt8) : List Kv := ps.filter fun p => !kl p.1 s && kl p.1 e
/-- A filter that keeps just the places from a on, below b. -/
theorem filter_cut (f : Kv → Bool) : ∀ (ps : List Kv) (a b : Nat), a ≤ b → b ≤ ps.length → (∀ i (h : i < ps.length), f ps[i] = (decide (a ≤ i) && decide (i < b))) → (ps.drop a).take (b - a) = ps.filter f
  | [], a, b, _, _, _ => by simp
  | p :: ps, 0, 0, _, _, h => by
    have e : (p :: ps).filter f = [] := List.filter_eq_nil_iff.2 fun q hq e => by
      obtain ⟨i, hi, rfl⟩ := List.getElem_of_mem hq
      rw [h i hi] at e
      simp at e
    rw [e]; rfl
  | p :: ps, 0, b + 1, _, hb, h => by
    have h0 := h 0 (by simp)
    simp at h0
    have ih := filter_cut f ps 0 b (by omega) (by simpa using hb) fun i hi => by
      have := h (i + 1) (by simpa using hi)
      simpa using this
    rw [List.filter_cons, h0, if_pos rfl, ← ih]
    simp
  | p :: ps, a + 1, 0, hab, _, _ => by omega
  | p :: ps, a + 1, b + 1, hab, hb, h => by
    have h0 := h 0 (by simp)
    simp at h0
    have ih := filter_cut f ps a b (by omega) (by simpa using hb) fun i hi => by
      have := h (i + 1) (by simpa using hi)
      simpa using this
    rw [List.filter_cons, h0, if_neg (by simp), ← ih, List.drop_succ_cons]
    congr 1
    omega
theorem range_cut {ps : List Kv} (h : Rises ps) (s e : List UInt8) : (ps.drop (lowN ps s)).take (max (lowN ps s) (lowN ps e) - lowN ps s) = rangeL ps s e := by
  have hs := lowN_le ps s
  have he := lowN_le ps e
  refine filter_cut _ ps _ _ (by omega) (by omega) fun i hi => ?_
  have e1 : kl ps[i].1 s = decide (i < lowN ps s) := by
    by_cases h1 : i < lowN ps s
    · rw [below_low h s h1 hi]; simp [h1]
    · rw [above_low h s (by omega) hi]; simp [h1]
  have e2 : kl ps[i].1 e = decide (i < lowN ps e) := by
    by_cases h1 : i < lowN ps e
    · rw [below_low h e h1 hi]; simp [h1]
    · rw [above_low h e (by omega) hi]; simp [h1]
  rw [e1, e2]
  by_cases h1 : i < lowN ps s <;> by_cases h2 : i < lowN ps e <;> simp [h1, h2] <;> omega
theorem sl_lhQ (A : Option Addr) (n c a b : Nat) (hab : a ≤ b) (hb : b ≤ c) (w : World) : (Instr.sliceAt 22 (.slice A n c) (some (.int .i64 (a : Int))) (some (.int .i64 (b : Int))) none).run Try.prog w = .ok (.slice (if c = a then A else A.map (·.add (a * 2))) (b - a) (c - a)) w := by
  rw [run_sliceAt_slice (P := Try.prog) (w := w) (t := 22) (h := by kernel_rfl), run_slice_lh (P := Try.prog) (w := w) (ht := by kernel_rfl) (h0 := by omega) (h1 := by omega) (h2 := by omega)]
  have he : (sizeOf (Try.prog.elem 22)).run Try.prog w = .ok 2 w := by kernel_rfl
  rw [he, Result.andThen_ok]
  simp [sliced]

set_option maxHeartbeats 1000000 in
theorem Range_any (A : Option Addr) (c : Nat) (ps : List Kv) (s e : List UInt8) (w : World) (hr : RdQ w A ps) (hc : ps.length ≤ c) (hn : ps.length ≤ 1000) (hs : Rises ps) :
    Calls Try.prog 8 #[.slice A ps.length c, .string ⟨s.toArray⟩, .string ⟨e.toArray⟩] w fun e1 w' => ∃ v', e1 = .returned v' ∧ PB w' v' (rangeL ps s e) ∧ w.grownBy w' none := by
  have h1 := First_any A c ps s w hr (by omega) hs
  have h2 := fun (W : World) (hg : w.grownBy W none) => First_any A c ps e W (hr.kept hg) (by omega) hs
  have hcut := range_cut hs s e
  have la := lowN_le ps s
  have lb := lowN_le ps e
  have hR := (RdQ.cut hr (k := lowN ps s) hc).take (max (lowN ps s) (lowN ps e) - lowN ps s)
  rw [hcut] at hR
  have hlen : (rangeL ps s e).length = max (lowN ps s) (lowN ps e) - lowN ps s := by rw [← hcut, List.length_take, List.length_drop]; omega
  clear hr hs hcut
  generalize lowN ps s = a at *
  generalize lowN ps e = b at *
  generalize rangeL ps s e = R at *
  by_cases hab : a < b
  · have hm : max a b = b := by omega
    rw [hm] at hlen
    have s1 := sl_lhQ A ps.length c a b (by omega) (by omega)
    generalize (if c = a then A else A.map (·.add (a * 2))) = B at *
    have hC := fun (W : World) (hg : w.grownBy W none) => CloneQ_any B (c - a) R W (hR.kept hg) (by omega)
    rw [hlen] at hC
    clear hlen hR hm
    generalize b - a = m at *
    generalize c - a = c2 at *
    go_enter Try.func8, Try.ntmps8
    go_wp2_with (first | (go_at_call 10; refine h1.mono ?_; clear h1; rintro e1 w1 ⟨rfl, hg1⟩) | (go_at_call 10; refine (h2 _ hg1).mono ?_; clear h2; rintro e2 w2 ⟨rfl, hg2⟩; have hgw := grown_none hg1 hg2) | (go_at_call 27; refine (hC _ hgw).mono ?_; rintro e3 w3 ⟨v3, rfl, hp3, hg3⟩))
    go_ret
    exact ⟨_, rfl, hp3, grown_none hgw hg3⟩
  · have hm : max a b = a := by omega
    rw [hm, Nat.sub_self] at hlen
    have s1 := sl_lhQ A ps.length c a a (by omega) (by omega)
    rw [Nat.sub_self] at s1
    generalize (if c = a then A else A.map (·.add (a * 2))) = B at *
    have hC := fun (W : World) (hg : w.grownBy W none) => CloneQ_any B (c - a) R W (hR.kept hg) (by omega)
    rw [hlen] at hC
    clear hlen hR hm
    generalize c - a = c2 at *
    go_enter Try.func8, Try.ntmps8
    go_wp2_with (first | (go_at_call 10; refine h1.mono ?_; clear h1; rintro e1 w1 ⟨rfl, hg1⟩) | (go_at_call 10; refine (h2 _ hg1).mono ?_; clear h2; rintro e2 w2 ⟨rfl, hg2⟩; have hgw := grown_none hg1 hg2) | (go_at_call 27; refine (hC _ hgw).mono ?_; rintro e3 w3 ⟨v3, rfl, hp3, hg3⟩))
    go_ret
    exact ⟨_, rfl, hp3, grown_none hgw hg3⟩

/-! ## Right -/

/-- Is the pair at that place as it should be? -/
def okAt (ps : List Kv) (i : Nat) : Bool := mayQ ps[i]! && (decide (i = 0) || kl ps[i - 1]!.1 ps[i]!.1)
def goodL (ps : List Kv) : Bool := (List.range ps.length).all (okAt ps)
def rightL (ps : List Kv) : Bool := decide (ps.length ≤ 30) && goodL ps
theorem rises_of : ∀ ps : List Kv, (∀ i, i < ps.length → i = 0 ∨ kl ps[i - 1]!.1 ps[i]!.1 = true) → Rises ps
  | [], _ => List.Pairwise.nil
  | [p], _ => List.pairwise_singleton ..
  | p :: q :: ps, h => by
    have h1 := h 1 (by simp)
    simp at h1
    have ih := rises_of (q :: ps) fun i hi => by
      rcases Nat.eq_zero_or_pos i with rfl | hp
      · exact .inl rfl
      · have := h (i + 1) (by simpa using hi)
        obtain ⟨j, rfl⟩ : ∃ j, i = j + 1 := ⟨i - 1, by omega⟩
        right
        simpa using this
    refine List.Pairwise.cons (fun x hx => ?_) ih
    rcases List.mem_cons.1 hx with rfl | hx
    · exact h1
    · exact kl_trans h1 ((List.pairwise_cons.1 ih).1 x hx)
theorem rises_next {ps : List Kv} (h : Rises ps) (i : Nat) (hi : i + 1 < ps.length) : kl ps[i].1 ps[i + 1].1 = true := List.pairwise_iff_getElem.1 h i (i + 1) (by omega) hi (by omega)
theorem good_iff (ps : List Kv) : goodL ps = true ↔ (∀ p ∈ ps, mayQ p = true) ∧ Rises ps := by
  unfold goodL okAt
  simp only [List.all_eq_true, List.mem_range, Bool.and_eq_true, Bool.or_eq_true, decide_eq_true_eq]
  constructor
  · intro h
    refine ⟨fun p hp => ?_, rises_of ps fun i hi => (h i hi).2⟩
    obtain ⟨i, hi, rfl⟩ := List.getElem_of_mem hp
    have := (h i hi).1
    rwa [getElem!_pos ps i hi] at this
  · rintro ⟨h1, h2⟩ i hi
    refine ⟨by rw [getElem!_pos ps i hi]; exact h1 _ (List.getElem_mem hi), ?_⟩
    rcases Nat.eq_zero_or_pos i with rfl | hp
    · exact .inl rfl
    · obtain ⟨j, rfl⟩ : ∃ j, i = j + 1 := ⟨i - 1, by omega⟩
      right
      rw [Nat.add_sub_cancel, getElem!_pos ps j (by omega), getElem!_pos ps (j + 1) hi]
      exact rises_next h2 j hi
theorem right_iff (ps : List Kv) : rightL ps = true ↔ ps.length ≤ 30 ∧ (∀ p ∈ ps, mayQ p = true) ∧ Rises ps := by
  unfold rightL
  rw [Bool.and_eq_true, decide_eq_true_eq, good_iff]
end Go.Proofs.Ytehbhjkceemmcaa
