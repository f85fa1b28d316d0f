/- slices.Clone, Grow, Concat of rows of pairs. Package kv: Set, Del, Range. Package kv: Set, Range. Package kv: Range, Right, Leaf. -/
import Derived.Test.YtpeepiboocdnaaaDoorKL
namespace Go.Proofs.YtpeepiboocdnaaaDoor
open Go.RowKit

theorem eq_nilQ (w : World) (A : Option Addr) (n c n' c' : Nat) : (binOp .eql 24 (.slice A n c) (.slice none n' c')).run Tryd.prog w = .ok (.bool A.isNone) w := Lib.run_eql_slice_nil w _ _ A n c n' c' Tryd.underlying24
/-- A slice of pairs without an address has none. -/
theorem RdQ.none {w : World} {ps : List Kv} (h : RdQ w none ps) : ps = [] := by
  rcases h with h | ⟨ad, e, _⟩
  · exact qcs_nil h
  · cases e
theorem emptyQ (w : World) : OwnQ (w.alloc (.cells #[] 23)) (.slice (some ⟨w.heap.size, 0, none⟩) 0 0) [] := ownQ_new w #[] [] 0 rfl rfl (Nat.zero_le _)

set_option maxRecDepth 100000 in
theorem CloneQ_new (A : Option Addr) (c : Nat) (ps : List Kv) (w : World) (hr : RdQ w A ps) (hn : ps.length ≤ 1000000) :
    Calls Tryd.prog 30 #[.slice A ps.length c] w fun e w' => ∃ v', e = .returned v' ∧ PB w' v' ps ∧ w.grownBy w' none ∧ ∀ x, v'.ownBlock = some x → w.heap.size ≤ x := by
  have q := eq_nilQ
  cases A with
  | none =>
    obtain rfl := hr.none
    go_enter Tryd.func30, Tryd.ntmps30
    go_wp2
    go_ret
    exact ⟨_, rfl, PB.nil _, grown_refl _ _, fun x e => by cases e⟩
  | some ad =>
    have hr2 := hr.alloc (.cells #[] 23)
    have hO := emptyQ w
    go_enter Tryd.func30, Tryd.ntmps30
    go_wp2_with (at_builtin; refine wpList_appQ rfl _ _ rfl rfl hO rfl rfl hr2 (by simp; omega) ?_)
    intro v' w' ho hg
    go_wp2
    go_ret
    exact ⟨_, rfl, ho.toPB, (Grew.fresh hg).nil, (Grew.fresh hg).new⟩
theorem CloneQ_any (A : Option Addr) (c : Nat) (ps : List Kv) (w : World) (hr : RdQ w A ps) (hn : ps.length ≤ 1000000) :
    Calls Tryd.prog 30 #[.slice A ps.length c] w fun e w' => ∃ v', e = .returned v' ∧ PB w' v' ps ∧ w.grownBy w' none :=
  (CloneQ_new A c ps w hr hn).mono fun _ _ ⟨v', h1, h2, h3, _⟩ => ⟨v', h1, h2, h3⟩

/-- What the slices hold together. -/
def catQ (ts : List (Value × List Kv)) : List Kv := ts.flatMap (·.2)
theorem catQ_next {ts : List (Value × List Kv)} {k : Nat} (h : k < ts.length) : catQ (ts.take (k + 1)) = catQ (ts.take k) ++ ts[k].2 := by
  rw [List.take_succ_eq_append_getElem h, catQ, List.flatMap_append]; simp [catQ]
theorem catQ_le (ts : List (Value × List Kv)) (k : Nat) : (catQ (ts.take k)).length ≤ (catQ ts).length := by
  have e : catQ ts = catQ (ts.take k) ++ catQ (ts.drop k) := by
    unfold catQ
    rw [← List.flatMap_append, List.take_append_drop]
  rw [e, List.length_append]; omega

end Go.Proofs.YtpeepiboocdnaaaDoor

namespace Go.Proofs.YtpeepiboocdnaaaDoor
open Go.RowKit

def setL (ps : List Kv) (p : Kv) : List Kv := loL ps p.1 ++ p :: hiL ps p.1
def delL (ps : List Kv) (k : List UInt8) : List Kv := loL ps k ++ hiL ps k
theorem alloc_atQ {w : World} {o : Obj} {g : Nat} (hg : w.heap.size = g) : (w.alloc o).heap[g]? = some o := by subst hg; exact heap_alloc_new w o
theorem alloc_oldQ {w : World} {o o' : Obj} {g : Nat} (h : w.heap[g]? = some o) : (w.alloc o').heap[g]? = some o := by
  have hlt := (Array.getElem?_eq_some_iff.1 h).1
  show (w.heap.push o')[g]? = _
  rw [Array.getElem?_push_lt hlt, ← Array.getElem?_eq_getElem hlt]
  exact h
theorem lit_1q (a b : ByteArray) (w : World) : (Instr.buildSlice 24 1 #[(0, .agg #[.string a, .string b])]).run Tryd.prog w = .ok (.slice (some ⟨w.heap.size, 0, none⟩) 1 1) (w.alloc (.cells #[.string a, .string b] 23)) := by kernel_rfl
/-- The one pair of a literal. -/
theorem ps_one {w : World} {g : Nat} (p : Kv) {t : TypeId} {fr : Nat × Nat} (h : w.heap[g]? = some (.cells #[.string ⟨p.1.toArray⟩, .string ⟨p.2.toArray⟩] t fr)) : PS w (.slice (some ⟨g, 0, none⟩) 1 1) [p] :=
  ⟨_, 1, rfl, Nat.le_refl _, rd_row h⟩

end Go.Proofs.YtpeepiboocdnaaaDoor

namespace Go.Proofs.YtpeepiboocdnaaaDoor
open Go.RowKit

theorem setL_len (ps : List Kv) (p : Kv) : (setL ps p).length = lowN ps p.1 + (1 + (hiL ps p.1).length) := by
  unfold setL
  rw [List.length_append, List.length_cons]
  show (loL ps p.1).length + _ = (loL ps p.1).length + _
  omega
/-- Is it taken? -/
def okL (ps : List Kv) (p : Kv) : Bool := mayQ p && decide ((setL ps p).length ≤ 30)
theorem box_at {w w' : World} {p : Kv} {t : TypeId} (hg : (w.alloc (.cells #[.string ⟨p.1.toArray⟩, .string ⟨p.2.toArray⟩] t)).grownBy w' none) : AtQ w' ⟨w.heap.size, 0, none⟩ p := by
  have h := (alloc_atQ (w := w) (o := .cells #[.string ⟨p.1.toArray⟩, .string ⟨p.2.toArray⟩] t) rfl)
  have h2 : w'.heap[w.heap.size]? = some (.cells #[.string ⟨p.1.toArray⟩, .string ⟨p.2.toArray⟩] t) := (hg.block _ (by simp) (by simp)).trans h
  exact ⟨by rw [cell_of_row _ _ 0 _ _ _ h2]; rfl, by show w'.cell? ⟨w.heap.size, 0 + 1, none⟩ = _; rw [cell_of_row _ _ _ _ _ _ h2]; rfl⟩

end Go.Proofs.YtpeepiboocdnaaaDoor

namespace Go.Proofs.YtpeepiboocdnaaaDoor
open Go.RowKit

def rangeL (ps : List Kv) (s e : List UInt8) : List Kv := ps.filter fun p => !kl p.1 s && kl p.1 e
/-- A filter that keeps just the places from a on, below b. -/
theorem filter_cut (f : Kv → Bool) : ∀ (ps : List Kv) (a b : Nat), a ≤ b → b ≤ ps.length → (∀ i (h : i < ps.length), f ps[i] = (decide (a ≤ i) && decide (i < b))) → (ps.drop a).take (b - a) = ps.filter f
  | [], a, b, _, _, _ => by simp
  | p :: ps, 0, 0, _, _, h => by
    have e : (p :: ps).filter f = [] := List.filter_eq_nil_iff.2 fun q hq e => by
      obtain ⟨i, hi, rfl⟩ := List.getElem_of_mem hq
      rw [h i hi] at e
      simp at e
    rw [e]; rfl
  | p :: ps, 0, b + 1, _, hb, h => by
    have h0 := h 0 (by simp)
    simp at h0
    have ih := filter_cut f ps 0 b (by omega) (by simpa using hb) fun i hi => by
      have := h (i + 1) (by simpa using hi)
      simpa using this
    rw [List.filter_cons, h0, if_pos rfl, ← ih]
    simp
  | p :: ps, a + 1, 0, hab, _, _ => by omega
  | p :: ps, a + 1, b + 1, hab, hb, h => by
    have h0 := h 0 (by simp)
    simp at h0
    have ih := filter_cut f ps a b (by omega) (by simpa using hb) fun i hi => by
      have := h (i + 1) (by simpa using hi)
      simpa using this
    rw [List.filter_cons, h0, if_neg (by simp), ← ih, List.drop_succ_cons]
    congr 1
    omega
theorem range_cut {ps : List Kv} (h : Rises ps) (s e : List UInt8) : (ps.drop (lowN ps s)).take (max (lowN ps s) (lowN ps e) - lowN ps s) = rangeL ps s e := by
  have hs := lowN_le ps s
  have he := lowN_le ps e
  refine filter_cut _ ps _ _ (by omega) (by omega) fun i hi => ?_
  have e1 : kl ps[i].1 s = decide (i < lowN ps s) := by
    by_cases h1 : i < lowN ps s
    · rw [below_low h s h1 hi]; simp [h1]
    · rw [above_low h s (by omega) hi]; simp [h1]
  have e2 : kl ps[i].1 e = decide (i < lowN ps e) := by
    by_cases h1 : i < lowN ps e
    · rw [below_low h e h1 hi]; simp [h1]
    · rw [above_low h e (by omega) hi]; simp [h1]
  rw [e1, e2]
  by_cases h1 : i < lowN ps s <;> by_cases h2 : i < lowN ps e <;> simp [h1, h2] <;> omega
theorem sl_lhQ (A : Option Addr) (n c a b : Nat) (hab : a ≤ b) (hb : b ≤ c) (w : World) : (Instr.sliceAt 24 (.slice A n c) (some (.int .i64 (a : Int))) (some (.int .i64 (b : Int))) none).run Tryd.prog w = .ok (.slice (if c = a then A else A.map (·.add (a * 2))) (b - a) (c - a)) w := by
  rw [run_sliceAt_slice (P := Tryd.prog) (w := w) (t := 24) (h := by kernel_rfl), run_slice_lh (P := Tryd.prog) (w := w) (ht := by kernel_rfl) (h0 := by omega) (h1 := by omega) (h2 := by omega)]
  have he : (sizeOf (Tryd.prog.elem 24)).run Tryd.prog w = .ok 2 w := by kernel_rfl
  rw [he, Result.andThen_ok]
  simp [sliced]

/-! ## Right -/

/-- Is the pair at that place as it should be? -/
def okAt (ps : List Kv) (i : Nat) : Bool := mayQ ps[i]! && (decide (i = 0) || kl ps[i - 1]!.1 ps[i]!.1)
def goodL (ps : List Kv) : Bool := (List.range ps.length).all (okAt ps)
def rightL (ps : List Kv) : Bool := decide (ps.length ≤ 30) && goodL ps
theorem rises_of : ∀ ps : List Kv, (∀ i, i < ps.length → i = 0 ∨ kl ps[i - 1]!.1 ps[i]!.1 = true) → Rises ps
  | [], _ => List.Pairwise.nil
  | [p], _ => List.pairwise_singleton ..
  | p :: q :: ps, h => by
    have h1 := h 1 (by simp)
    simp at h1
    have ih := rises_of (q :: ps) fun i hi => by
      rcases Nat.eq_zero_or_pos i with rfl | hp
      · exact .inl rfl
      · have := h (i + 1) (by simpa using hi)
        obtain ⟨j, rfl⟩ : ∃ j, i = j + 1 := ⟨i - 1, by omega⟩
        right
        simpa using this
    refine List.Pairwise.cons (fun x hx => ?_) ih
    rcases List.mem_cons.1 hx with rfl | hx
    · exact h1
    · exact kl_trans h1 ((List.pairwise_cons.1 ih).1 x hx)
theorem rises_next {ps : List Kv} (h : Rises ps) (i : Nat) (hi : i + 1 < ps.length) : kl ps[i].1 ps[i + 1].1 = true := List.pairwise_iff_getElem.1 h i (i + 1) (by omega) hi (by omega)
theorem good_iff (ps : List Kv) : goodL ps = true ↔ (∀ p ∈ ps, mayQ p = true) ∧ Rises ps := by
  unfold goodL okAt
  simp only [List.all_eq_true, List.mem_range, Bool.and_eq_true, Bool.or_eq_true, decide_eq_true_eq]
  constructor
  · intro h
    refine ⟨fun p hp => ?_, rises_of ps fun i hi => (h i hi).2⟩
    obtain ⟨i, hi, rfl⟩ := List.getElem_of_mem hp
    have := (h i hi).1
    rwa [getElem!_pos ps i hi] at this
  · rintro ⟨h1, h2⟩ i hi
    refine ⟨by rw [getElem!_pos ps i hi]; exact h1 _ (List.getElem_mem hi), ?_⟩
    rcases Nat.eq_zero_or_pos i with rfl | hp
    · exact .inl rfl
    · obtain ⟨j, rfl⟩ : ∃ j, i = j + 1 := ⟨i - 1, by omega⟩
      right
      rw [Nat.add_sub_cancel, getElem!_pos ps j (by omega), getElem!_pos ps (j + 1) hi]
      exact rises_next h2 j hi
theorem right_iff (ps : List Kv) : rightL ps = true ↔ ps.length ≤ 30 ∧ (∀ p ∈ ps, mayQ p = true) ∧ Rises ps := by
  unfold rightL
  rw [Bool.and_eq_true, decide_eq_true_eq, good_iff]
end Go.Proofs.YtpeepiboocdnaaaDoor
