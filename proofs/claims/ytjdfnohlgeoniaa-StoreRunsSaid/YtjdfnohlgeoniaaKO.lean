/- The statements' rows of pairs: made by a map. Rows of pairs of the call's own as values of a region that draws its order. Leaves of pairs; ranges that meet; rows told by what is in them. Chapter 6's runs. A row of pairs that came in. -/
import Derived.Test.YtjdfnohlgeoniaaKN
import Derived.Test.YtjdfnohlgeoniaaKF
import Derived.Maps.OwnSet
import Derived.Test.YtjdfnohlgeoniaaKL
import Derived.Test.YtjdfnohlgeoniaaKC
namespace Go.Proofs.Ytjdfnohlgeoniaa
open Go.RowKit
open Go.Maps (Keyed string_keyed)

/-- A row of pairs as the statements make it: some of their keys, in order, with short texts. -/
def Kept (ps : List Kv) : Prop := (ps.map (·.1)).Sublist keysK ∧ ∀ p ∈ ps, p.2.length ≤ 8
theorem Kept.len {ps : List Kv} (h : Kept ps) : ps.length ≤ 12 := by
  have := h.1.length_le
  rwa [List.length_map] at this
theorem Kept.rises {ps : List Kv} (h : Kept ps) : Rises ps := by
  have := List.Pairwise.sublist h.1 keysK_rise
  rw [List.pairwise_map] at this
  exact this
theorem Kept.may {ps : List Kv} (h : Kept ps) : ∀ p ∈ ps, mayQ p = true := by
  intro p hp
  have h1 := keysK_may p.1 (h.1.subset (List.mem_map_of_mem hp))
  have h2 := h.2 p hp
  unfold mayQ
  rw [decide_eq_true_iff]
  omega
theorem Kept.right {ps : List Kv} (h : Kept ps) : rightL ps = true := (right_iff ps).2 ⟨by have := h.len; omega, h.may, h.rises⟩

theorem law_str : Keyed Try.prog 9 := string_keyed Try.underlying9
theorem zero_str (w : World) : (zeroValue 9).run Try.prog w = .ok (.string ⟨#[]⟩) w := by kernel_rfl
/-- How a short text reads. -/
def Rk : Value → Option (DataW Unit × List MemPlace)
  | .string s => if s.data.toList.length ≤ 8 then some (.lit (.string s.data.toList), []) else none
  | _ => none
theorem Rk_mk {t : List UInt8} (h : t.length ≤ 8) : Rk (.string ⟨t.toArray⟩) = some (.lit (.string t), []) := by simp [Rk, h]
theorem Rk_inv {v : Value} {z : DataW Unit × List MemPlace} (h : Rk v = some z) : ∃ s : List UInt8, v = .string ⟨s.toArray⟩ ∧ s.length ≤ 8 := by
  unfold Rk at h
  split at h
  · rename_i s
    split at h
    · rename_i hs
      exact ⟨s.data.toList, by simp, hs⟩
    · cases h
  · cases h
theorem quo12 (n : Int) : ∃ m : Int, ∀ w : World, (binOp .quo 3 (.int .i64 n) (.int .i64 12)).run Try.prog w = .ok (.int .i64 m) w :=
  ⟨IntKind.i64.wrap (n.tdiv 12), fun w => by kernel_rfl⟩
def kpS (t : Nat) : Bool := t == 21 || t == 22 || t == 23 || t == 24 || t == 25 || t == 26 || t == 27 || t == 28 || t == 29 || t == 30 || t == 31 || t == 32
def kpDie (_ : Nat) : Nat := 99
def kpOwn (_ : Nat) : Bool := false
def kpAl (k : Nat) : Bool := k == 1 || k == 6
def kpF (ad : Addr) (n c k B : Nat) (x m : Int) (kt tt : List UInt8) : Nat → Value → World → Prop
  | 0 => fun v _ => v = .map (some B)
  | 1 => fun v _ => v = .slice (some ad) n c
  | 2 => fun v _ => v = .int .i64 (k : Nat)
  | 3 => fun v _ => v = .pointer (some (ad.add k))
  | 4 => fun v _ => v = .int .i64 x
  | 5 => fun v _ => v = (.string ⟨kt.toArray⟩)
  | 6 => fun v _ => v = .slice (some ad) n c
  | 7 => fun v _ => v = .int .i64 (k : Nat)
  | 8 => fun v _ => v = .pointer (some (ad.add k))
  | 9 => fun v _ => v = .int .i64 x
  | 10 => fun v _ => v = .int .i64 m
  | 11 => fun v _ => v = (.string ⟨tt.toArray⟩)
  | _ => fun _ _ => True
theorem kpF_lasts (ad : Addr) (n c k B : Nat) (x m : Int) (kt tt : List UInt8) : ∀ kq, LastsB kpAl kq (kpF ad n c k B x m kt tt kq)
  | 0 => LastsB.val _
  | 1 => LastsB.val _
  | 2 => LastsB.val _
  | 3 => LastsB.val _
  | 4 => LastsB.val _
  | 5 => LastsB.val _
  | 6 => LastsB.val _
  | 7 => LastsB.val _
  | 8 => LastsB.val _
  | 9 => LastsB.val _
  | 10 => LastsB.val _
  | 11 => LastsB.val _
  | _ + 12 => fun _ _ _ _ _ _ _ => trivial

end Go.Proofs.Ytjdfnohlgeoniaa

namespace Go.Proofs.Ytjdfnohlgeoniaa
open Go.RowKit

theorem LastsB.ownQ {al : Nat → Bool} {k : Nat} (ha : al k = false) (l : List Kv) : LastsB al k fun v w => OwnQ w v l := LastsB.of ha (lasts_ownQ l)
theorem ownQ_block {w : World} {u : Value} {l : List Kv} (h : OwnQ w u l) : u = .slice none 0 0 ∨ ∃ g n c, u = .slice (some ⟨g, 0, none⟩) n c := by
  obtain ⟨base, hb, _, h⟩ := h
  rcases h with ⟨rfl, _⟩ | ⟨g, cap, cur, rfl, _⟩
  · exact .inl rfl
  · exact .inr ⟨g, _, cap, rfl⟩
theorem ownQ_mem {w : World} {u : Value} {l : List Kv} (h : OwnQ w u l) : ∀ g, u.ownBlock = some g → g ∈ blocksOf u := by
  intro g e
  rcases ownQ_block h with rfl | ⟨g', n, c, rfl⟩
  · cases e
  · have e' : g' = g := by simpa [Value.ownBlock] using e
    rw [← e']; exact List.mem_singleton.2 rfl
theorem memQ_own {w : World} {u : Value} {l : List Kv} (h : OwnQ w u l) : ∀ g ∈ blocksOf u, u.ownBlock = some g := by
  intro g e
  rcases ownQ_block h with rfl | ⟨g', n, c, rfl⟩
  · cases e
  · have e' : g ∈ [g'] := e
    rw [List.mem_singleton] at e'
    rw [e']; rfl
theorem ownQ_lt {w : World} {u : Value} {l : List Kv} (h : OwnQ w u l) : ∀ g ∈ blocksOf u, g < w.heap.size := fun g e => h.lt g (memQ_own h g e)
theorem grewQ_blocks {w w' : World} {u v : Value} {l l' : List Kv} {p : Nat → Prop} (hu : OwnQ w u l) (hv : OwnQ w' v l') (hw : Grew w w' u v) : ∀ g ∈ blocksOf v, w.heap.size ≤ g ∨ g ∈ blocksOf u ∨ p g := by
  intro g e
  have e1 := memQ_own hv g e
  rcases hw.2 with e2 | ⟨g', e2, h⟩
  · exact .inr (.inl (ownQ_mem hu g (by rw [← e2, e1])))
  · rw [e1] at e2; cases e2; exact .inl h
/-- A row of one pair. -/
def QOne (p : Kv) (v : Value) (w : World) : Prop := ∃ b, v = .slice (some ⟨b, 0, none⟩) 1 1 ∧ RdQ w (some ⟨b, 0, none⟩) [p]
theorem LastsB.qone {al : Nat → Bool} {k : Nat} (ha : al k = false) (p : Kv) : LastsB al k (QOne p) := by
  rintro v w w' row ⟨b, rfl, h⟩ hg hne
  exact ⟨b, rfl, RdAt.keep h hg (fun ad e => by cases e; exact hne b (by simp [bl, ha, blocksOf]))⟩
theorem qone_new (w : World) (p : Kv) : QOne p (.slice (some ⟨w.heap.size, 0, none⟩) 1 1) (w.alloc (.cells #[.string ⟨p.1.toArray⟩, .string ⟨p.2.toArray⟩] 26)) := ⟨_, rfl, rd_row (alloc_atQ rfl)⟩
theorem OwnQ.form {w : World} {v : Value} {ps : List Kv} (h : OwnQ w v ps) : ∃ A c, v = .slice A ps.length c ∧ ps.length ≤ c := by
  obtain ⟨A, c, e, hc, -⟩ := h.toPS
  exact ⟨A, c, e, hc⟩
end Go.Proofs.Ytjdfnohlgeoniaa

namespace Go.Proofs.Ytjdfnohlgeoniaa
open Go.RowKit

/-- A pair's leaf. -/
def leafL (p : Kv) : List UInt8 := textsL [p.1, p.2]
theorem leafL_len (p : Kv) : (leafL p).length ≤ p.1.length + p.2.length + 12 := by
  have h1 := putL_len p.1.length
  have h2 := putL_len p.2.length
  simp only [leafL, textsL, textL, List.flatMap_cons, List.flatMap_nil, List.append_nil, List.length_append]
  omega
/-- Short pairs' leaves tell them apart. -/
theorem leaf_inj {p q : Kv} (h1 : p.1.length < 128) (h2 : p.2.length < 128) (h3 : q.1.length < 128) (h4 : q.2.length < 128) (h : leafL p = leafL q) : p = q := by
  have hp : ∀ n : Nat, n < 128 → putL (n : Int) = [UInt8.ofNat n] := fun n hn => by rw [putL_some (by omega), putN_small hn]
  have hb : ∀ m n : Nat, m < 128 → n < 128 → UInt8.ofNat m = UInt8.ofNat n → m = n := fun m n hm hn e => by
    have := congrArg UInt8.toNat e
    rw [UInt8.toNat_ofNat', UInt8.toNat_ofNat'] at this
    omega
  simp only [leafL, textsL, textL, List.flatMap_cons, List.flatMap_nil, List.append_nil, hp _ h1, hp _ h2, hp _ h3, hp _ h4, List.cons_append, List.nil_append, List.cons.injEq] at h
  obtain ⟨e1, h⟩ := h
  obtain ⟨e2, h⟩ := List.append_inj h (hb _ _ h1 h3 e1)
  simp only [List.cons.injEq] at h
  exact Prod.ext e2 h.2
theorem leaf_same {ps : List Kv} (hk : Kept ps) {i j : Nat} (hi : i < ps.length) (hj : j < ps.length) : decide (leafL ps[i] = leafL ps[j]) = decide (i = j) := by
  by_cases e : i = j
  · subst e; simp
  · rw [decide_eq_false e, decide_eq_false_iff_not]
    intro h
    have m1 := keysK_may _ (hk.1.subset (List.mem_map_of_mem (List.getElem_mem hi)))
    have m2 := keysK_may _ (hk.1.subset (List.mem_map_of_mem (List.getElem_mem hj)))
    have m3 := hk.2 _ (List.getElem_mem hi)
    have m4 := hk.2 _ (List.getElem_mem hj)
    have e2 := leaf_inj (by omega) (by omega) (by omega) (by omega) h
    rcases Nat.lt_or_gt_of_ne e with h' | h'
    · have := List.pairwise_iff_getElem.1 hk.rises i j hi hj h'
      rw [e2, kl_irr] at this; cases this
    · have := List.pairwise_iff_getElem.1 hk.rises j i hj hi h'
      rw [e2, kl_irr] at this; cases this

/-! ## Ranges -/
theorem lowN_mono {ps : List Kv} {x y : List UInt8} (h : kl y x = false) : lowN ps x ≤ lowN ps y := by
  show (ps.filter _).length ≤ (ps.filter _).length
  rw [← List.countP_eq_length_filter, ← List.countP_eq_length_filter]
  exact List.countP_mono_left fun p _ hp => kl_lt_of hp h
theorem range_meet {ps : List Kv} (hs : Rises ps) {x y z : List UInt8} (h1 : kl y x = false) (h2 : kl z y = false) : rangeL ps x y ++ rangeL ps y z = rangeL ps x z := by
  have m1 := lowN_mono (ps := ps) h1
  have m2 := lowN_mono (ps := ps) h2
  rw [← range_cut hs x y, ← range_cut hs y z, ← range_cut hs x z]
  generalize lowN ps x = a at *
  generalize lowN ps y = b at *
  generalize lowN ps z = c at *
  rw [Nat.max_eq_right m1, Nat.max_eq_right m2, Nat.max_eq_right (Nat.le_trans m1 m2)]
  have e : c - a = (b - a) + (c - b) := by omega
  rw [e, List.take_add, List.drop_drop]
  congr 3
  omega
theorem rangeL_next {ps : List Kv} {k : Nat} (h : k < ps.length) (x y : List UInt8) : rangeL (ps.take (k + 1)) x y = rangeL (ps.take k) x y ++ (if (!kl ps[k].1 x && kl ps[k].1 y) = true then [ps[k]] else []) := by
  rw [List.take_succ_eq_append_getElem h]
  unfold rangeL
  rw [List.filter_append, List.filter_cons]
  cases (!kl ps[k].1 x && kl ps[k].1 y) <;> rfl
theorem rangeL_split (ps : List Kv) (k : Nat) (x y : List UInt8) : rangeL ps x y = rangeL (ps.take k) x y ++ rangeL (ps.drop k) x y := by
  unfold rangeL
  rw [← List.filter_append, List.take_append_drop]
/-- The range's pair at the place of one of the row's. -/
theorem rangeL_at {ps : List Kv} {k : Nat} (h : k < ps.length) {x y : List UInt8} (hin : (!kl ps[k].1 x && kl ps[k].1 y) = true) : ∃ hl : (rangeL (ps.take k) x y).length < (rangeL ps x y).length, (rangeL ps x y)[(rangeL (ps.take k) x y).length] = ps[k] := by
  have e := rangeL_split ps (k + 1) x y
  rw [rangeL_next h, if_pos hin] at e
  refine ⟨by rw [e]; simp, ?_⟩
  have h2 : (rangeL ps x y)[(rangeL (ps.take k) x y).length]? = some ps[k] := by
    rw [e, List.append_assoc, List.getElem?_append_right (Nat.le_refl _)]
    simp
  exact (List.getElem?_eq_some_iff.1 h2).2
theorem leq_str (a b : List UInt8) (t : TypeId) : binOp .leq t (.string ⟨a.toArray⟩) (.string ⟨b.toArray⟩) = pure (.bool (!kl b a)) := by
  rw [binOp_string_leq, Lib.toList_data, Lib.toList_data]
  congr 2
  show (kl a b || a == b) = !kl b a
  cases h : kl a b
  · cases h' : kl b a
    · rw [kl_tri h h']; simp
    · have : (a == b) = false := by rw [beq_eq_false_iff_ne]; rintro rfl; rw [kl_irr] at h'; cases h'
      rw [this]; rfl
  · rw [kl_asymm h]; rfl
end Go.Proofs.Ytjdfnohlgeoniaa

namespace Go.Proofs.Ytjdfnohlgeoniaa
open Go.RowKit

def kvR : List Kv := [([97], []), ([98], []), ([99], [])]
theorem kvR_set : setL [([97], []), ([99], [])] ([98], []) = kvR := by decide
theorem kvR_ok : okL [([97], []), ([99], [])] ([98], []) = true := by decide
theorem kvR_rises : Rises kvR := by unfold Rises kvR; decide
theorem kvR_rises0 : Rises [([97], []), ([99], [])] := by unfold Rises; decide
theorem kvR_range : rangeL kvR [97] [99] = [([97], []), ([98], [])] := by decide
theorem kvR_del : delL kvR [97] = [([98], []), ([99], [])] := by decide
theorem kvR_low : lowN kvR [98, 98] = 2 := by decide
theorem kvR_right : rightL kvR = true := by decide

end Go.Proofs.Ytjdfnohlgeoniaa

namespace Go.Proofs.Ytjdfnohlgeoniaa
open Go.ChangeShapes Go.WideShapes Go.ChangeAt Go.RowKit
open Go.WideMaps Go.WideElems
open Go.ChangeMaps (open_string)

section
variable {H : Type} {enc : TypeId × Value → H} {P : Program} {W : World} {base : Nat} {v : Value} {d : DataW H} {p : List MemPlace}
theorem arg_pairs {t e : TypeId} {f0 f1 : Field} (ht : P.underlying t = some (.slice e)) (he : P.underlying e = some (.struct #[f0, f1])) (ce : P.cellsOf e = 2) (o0 : f0.offset = 0) (o1 : f1.offset = 1) (c0 : P.cellsOf f0.type = 1) (c1 : P.cellsOf f1.type = 1)
    (s0 : P.underlying f0.type = some .string) (s1 : P.underlying f1.type = some .string)
    (hv : Value.okWide P W .any base t v) (hd : DataW.Trod enc P W 0 (fun _ => true) true t v d p) :
    ∃ (A : Option Addr) (l : List Kv) (c : Nat), v = .slice A l.length c ∧ l.length ≤ c ∧ RdQ W A l := by
  obtain ⟨a0, len, cap, rfl⟩ := okWide_slice ht hv
  obtain ⟨fuel, hf⟩ := hd
  rcases Go.Deep.open_slice_pairs ht he ce o0 o1 c0 c1 hf with ⟨hcs, _⟩ | ⟨a, len', cap', m, n, V0, V1, D0, D1, P0, P1, hcs, _, hl, hm, hmm, _, hel⟩
  · simp [Value.cells] at hcs
    obtain ⟨rfl, rfl, rfl⟩ := hcs
    exact ⟨none, [], 0, rfl, Nat.le_refl _, RdAt.nil⟩
  · simp [Value.cells] at hcs
    obtain ⟨rfl, rfl, rfl⟩ := hcs
    simp only [if_true] at hmm
    have hq : ∀ i, i < len → ∃ q : Kv, W.cell? (a.add (i * 2)) = some (sv q.1) ∧ W.cell? (a.add (i * 2 + 1)) = some (sv q.2) := by
      intro i hi
      obtain ⟨h0, h1, r0, r1⟩ := hel i (by omega)
      obtain ⟨x0, e0, -⟩ := DataW.trod_string s0 r0
      obtain ⟨x1, e1, -⟩ := DataW.trod_string s1 r1
      simp only [List.cons.injEq, and_true] at e0 e1
      exact ⟨(x0.data.toList, x1.data.toList), by rw [h0, e0]; simp [sv], by rw [h1, e1]; simp [sv]⟩
    obtain ⟨ls, hll, hls⟩ := list_of len hq
    refine ⟨some a, ls, cap, by rw [hll], by omega, .inr ⟨a, rfl, fun j u hu => ?_⟩⟩
    have hj : j < ls.length * 2 := by
      have := (List.getElem?_eq_some_iff.1 hu).1
      rwa [qcs_len] at this
    have hi : j / 2 < ls.length := by omega
    obtain ⟨g1, g2⟩ := qcs_get ls (j / 2) hi
    obtain ⟨k1, k2⟩ := hls (j / 2) hi
    rcases Nat.mod_two_eq_zero_or_one j with h2 | h2
    · have e : j = j / 2 * 2 := by omega
      rw [e] at hu ⊢
      rw [g1] at hu
      cases hu
      exact k1
    · have e : j = j / 2 * 2 + 1 := by omega
      rw [e] at hu ⊢
      rw [g2] at hu
      cases hu
      exact k2
end
end Go.Proofs.Ytjdfnohlgeoniaa
