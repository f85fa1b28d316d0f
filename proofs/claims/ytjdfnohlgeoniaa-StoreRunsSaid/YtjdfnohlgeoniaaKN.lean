/- Package kv: Right; the document's own RightPairs. The document's own RightPair and RightPairs. The document's own First, Del; two rows of pairs compared. Two rows of pairs compared; the document's own Set. The document's own Set. The statements' keys and texts. Rows of pairs told by what is in them: set in any order, taken out. -/
import Derived.Test.YtjdfnohlgeoniaaKM
import Derived.Test.YtjdfnohlgeoniaaKC
import Derived.Laws.StructEq
import Derived.Test.YtjdfnohlgeoniaaKA
namespace Go.Proofs.Ytjdfnohlgeoniaa
open Go.RowKit

theorem okAt_zero {ps : List Kv} (h : 0 < ps.length) : okAt ps 0 = mayQ ps[0] := by
  unfold okAt
  rw [getElem!_pos ps 0 h]
  simp
theorem okAt_succ {ps : List Kv} {j : Nat} (h : j + 1 < ps.length) : okAt ps (j + 1) = (mayQ ps[j + 1] && kl ps[j].1 ps[j + 1].1) := by
  unfold okAt
  rw [getElem!_pos ps (j + 1) h, Nat.add_sub_cancel, getElem!_pos ps j (by omega)]
  simp
theorem good_all {ps : List Kv} (h : ∀ j, j < ps.length → okAt ps j = true) : goodL ps = true := by
  unfold goodL
  rw [List.all_eq_true]
  intro j hj
  exact h j (List.mem_range.1 hj)
theorem good_not {ps : List Kv} {j : Nat} (hj : j < ps.length) (h : okAt ps j = false) : goodL ps = false := by
  cases hg : goodL ps
  · rfl
  · unfold goodL at hg
    rw [List.all_eq_true] at hg
    rw [hg j (List.mem_range.2 hj)] at h; cases h
theorem upto_succ {ps : List Kv} {k : Nat} (h : ∀ j, j < k → okAt ps j = true) (hk : okAt ps k = true) : ∀ j, j < k + 1 → okAt ps j = true := by
  intro j hj
  rcases Nat.lt_or_ge j k with h1 | h1
  · exact h j h1
  · rw [show j = k by omega]; exact hk
/-- A region that draws its order, whose operations read and whose calls only make new memory: one walk, in the order of the text. -/
theorem wp_region_grow {P : Program} {id : Nat} {Q : Exit → Act → World → Prop} {a : Act} {w : World} {l : List Oper} (hm : P.follows .mixedOrders = true) (hB : Region.lexB .any l.toArray = true)
    (h : wpQuiet P l.toArray (fun w' => w.grownBy w' none) (fun a' => ∀ w', w.grownBy w' none → Q .normal a' w') l a) : (Code.region id l.toArray true).wp P Q a w :=
  wp_region_quiet (C := fun w' => w.grownBy w' none) hm hB (grown_drew (grown_refl _ _)) (by simpa using h)
theorem cell_newQ {w w' : World} {p : Kv} {t : TypeId} (hg : (w.alloc (.cells #[.string ⟨p.1.toArray⟩, .string ⟨p.2.toArray⟩] t)).grownBy w' none) : w'.cell? ⟨w.heap.size, 0, none⟩ = some (.string ⟨p.1.toArray⟩) := (box_at hg).1

end Go.Proofs.Ytjdfnohlgeoniaa

namespace Go.Proofs.Ytjdfnohlgeoniaa
open Go.RowKit

end Go.Proofs.Ytjdfnohlgeoniaa

namespace Go.Proofs.Ytjdfnohlgeoniaa
open Go.RowKit

theorem lit_1k (a b : ByteArray) (w : World) : (Instr.buildSlice 29 1 #[(0, .agg #[.string a, .string b])]).run Try.prog w = .ok (.slice (some ⟨w.heap.size, 0, none⟩) 1 1) (w.alloc (.cells #[.string a, .string b] 26)) := lit_1q a b w
/-- Without that key. -/
def notL (ps : List Kv) (k : List UInt8) : List Kv := ps.filter fun p => !(p.1 == k)
theorem notL_next {ps : List Kv} {j : Nat} (h : j < ps.length) (k : List UInt8) : notL (ps.take (j + 1)) k = notL (ps.take j) k ++ (if ps[j].1 == k then [] else [ps[j]]) := by
  rw [List.take_succ_eq_append_getElem h]
  unfold notL
  rw [List.filter_append, List.filter_cons]
  cases ps[j].1 == k <;> rfl
theorem notL_del {ps : List Kv} (h : Rises ps) (k : List UInt8) : notL ps k = delL ps k := by
  have e := kvparts_of h k
  have h1 : notL (loL ps k) k = loL ps k := List.filter_eq_self.2 fun q hq => by
    have := (List.mem_filter.1 hq).2
    rw [Bool.not_eq_true', beq_eq_false_iff_ne]
    intro e; rw [e, kl_irr] at this; cases this
  have h2 : notL (atL ps k) k = [] := List.filter_eq_nil_iff.2 fun q hq => by
    have := (List.mem_filter.1 hq).2
    simp [this]
  have h3 : notL (hiL ps k) k = hiL ps k := List.filter_eq_self.2 fun q hq => by
    have := (List.mem_filter.1 hq).2
    rw [Bool.not_eq_true', beq_eq_false_iff_ne]
    intro e; rw [e, kl_irr] at this; cases this
  have e2 : notL ps k = notL (loL ps k ++ (atL ps k ++ hiL ps k)) k := by rw [← e]
  rw [e2]
  show List.filter _ _ = _
  rw [List.filter_append, List.filter_append]
  show notL (loL ps k) k ++ (notL (atL ps k) k ++ notL (hiL ps k) k) = _
  rw [h1, h2, h3]; rfl

end Go.Proofs.Ytjdfnohlgeoniaa

namespace Go.Proofs.Ytjdfnohlgeoniaa
open Go.RowKit

theorem neq_kv (x y : Kv) (w : World) : (binOp .neq 26 (.agg #[.string ⟨x.1.toArray⟩, .string ⟨x.2.toArray⟩]) (.agg #[.string ⟨y.1.toArray⟩, .string ⟨y.2.toArray⟩])).run Try.prog w = .ok (.bool (!(x == y))) w := by
  rw [run_neq_struct, run_equalIn_struct (P := Try.prog) w 9999 26 _ _ (by kernel_rfl) (by kernel_rfl)]
  have h : (Op.eqFields 9999 #[.string ⟨x.1.toArray⟩, .string ⟨x.2.toArray⟩] #[.string ⟨y.1.toArray⟩, .string ⟨y.2.toArray⟩] (Try.prog.fieldsOf 26).toList).run Try.prog w = .ok (x == y) w := by
    have hm : ((Try.prog.fieldsOf 26).toList.map fun f => (f.name, f.offset, f.type)) = [("Key", 0, 9), ("Value", 1, 9)] := by kernel_rfl
    have hz : ∀ w, (sizeOf 9).run Try.prog w = .ok 1 w := fun w => by kernel_rfl
    have he := fun (a b : ByteArray) (w : World) => run_equalIn_string (P := Try.prog) w 9998 9 a b Try.underlying9
    generalize (Try.prog.fieldsOf 26).toList = L at *
    obtain ⟨f0, L0, rfl, h0, hm⟩ := List.map_eq_cons_iff.1 hm
    obtain ⟨f1, L1, rfl, h1, hm⟩ := List.map_eq_cons_iff.1 hm
    obtain rfl := List.map_eq_nil_iff.1 hm
    simp only [Prod.mk.injEq] at h0 h1
    obtain ⟨n0, o0, t0⟩ := h0
    obtain ⟨n1, o1, t1⟩ := h1
    simp [Op.eqFields, n0, o0, t0, n1, o1, t1, part, hz, he]
    show _ = Result.ok (x.1 == y.1 && x.2 == y.2) w
    by_cases e1 : x.1 = y.1 <;> by_cases e2 : x.2 = y.2 <;> simp [e1, e2]
  rw [h]
  rfl
theorem kv_of {x y : Kv} (h : (!(x == y)) = false) : x = y := by simpa using h
theorem kv_ne {x y : Kv} (h : (!(x == y)) = true) : x ≠ y := by simpa using h

end Go.Proofs.Ytjdfnohlgeoniaa

namespace Go.Proofs.Ytjdfnohlgeoniaa
open Go.RowKit

theorem lit_0q (w : World) : (Instr.buildSlice 29 0 #[]).run Try.prog w = .ok (.slice (some ⟨w.heap.size, 0, none⟩) 0 0) (w.alloc (.cells #[] 26)) := by kernel_rfl
theorem lasts_ownQ (l : List Kv) : Lasts fun v w => OwnQ w v l := fun _ _ _ _ h hg hne => h.keep hg hne
theorem rd_litQ (w : World) (p : Kv) : ∃ A c, (Value.slice (some ⟨w.heap.size, 0, none⟩) 1 1) = .slice A 1 c ∧ RdAt (w.alloc (.cells #[.string ⟨p.1.toArray⟩, .string ⟨p.2.toArray⟩] 26)) A (qcs [p]) :=
  ⟨_, _, rfl, rd_row (alloc_atQ rfl)⟩
theorem blk_lt {A : Option Addr} {n c k : Nat} (h : ∀ ad, A = some ad → ad.block < k) : ∀ g, (Value.slice A n c).ownBlock = some g → g < k := by
  intro g e
  cases A with
  | none => cases e
  | some ad => simp only [Value.ownBlock, Option.some.injEq] at e; subst e; exact h _ rfl
theorem cut_lt {A : Option Addr} {c T k : Nat} (h : ∀ ad, A = some ad → ad.block < k) : ∀ ad, (if c = T then A else A.map (·.add (T * 2))) = some ad → ad.block < k := by
  intro ad e
  split at e
  · exact h ad e
  · cases A with
    | none => cases e
    | some a => simp only [Option.map_some, Option.some.injEq] at e; subst e; rw [add_block]; exact h a rfl
def kvsS (t : Nat) : Bool := (decide (32 ≤ t) && decide (t ≤ 41)) || t == 4
def kvsDie (k : Nat) : Nat := if k = 0 then 4 else if k = 4 then 7 else if k = 7 then 9 else if k = 9 then 10 else 99
def kvsOwn (k : Nat) : Bool := k == 0 || k == 4 || k == 6 || k == 7 || k == 9 || k == 10
def kvsF (A B : Option Addr) (n c N n2 c2 : Nat) (lo hi : List Kv) (p : Kv) : Nat → Value → World → Prop
  | 0 => fun v w => OwnQ w v ([])
  | 1 => fun v _ => v = .slice A n c
  | 2 => fun v _ => v = .int .i64 (N : Nat)
  | 3 => fun v _ => v = .slice A N c
  | 4 => fun v w => OwnQ w v (([]) ++ (lo))
  | 5 => fun v _ => v = (.agg #[.string ⟨(p).1.toArray⟩, .string ⟨(p).2.toArray⟩])
  | 6 => fun v w => ∃ A' c', v = .slice A' 1 c' ∧ RdAt w A' (qcs [p])
  | 7 => fun v w => OwnQ w v ((([]) ++ (lo)) ++ ([p]))
  | 8 => fun v _ => v = .slice B n2 c2
  | 9 => fun v w => OwnQ w v (((([]) ++ (lo)) ++ ([p])) ++ (hi))
  | 10 => fun v w => OwnQ w v (((([]) ++ (lo)) ++ ([p])) ++ (hi))
  | _ => fun _ _ => True
theorem kvsF_lasts (A B : Option Addr) (n c N n2 c2 : Nat) (lo hi : List Kv) (p : Kv) : ∀ k, Lasts (kvsF A B n c N n2 c2 lo hi p k)
  | 0 => lasts_ownQ _
  | 1 => lasts_val _
  | 2 => lasts_val _
  | 3 => lasts_val _
  | 4 => lasts_ownQ _
  | 5 => lasts_val _
  | 6 => lasts_rd _ _
  | 7 => lasts_ownQ _
  | 8 => lasts_val _
  | 9 => lasts_ownQ _
  | 10 => lasts_ownQ _
  | _ + 11 => fun _ _ _ _ _ _ _ => trivial

end Go.Proofs.Ytjdfnohlgeoniaa

namespace Go.Proofs.Ytjdfnohlgeoniaa
open Go.RowKit

def keysK : List (List UInt8) := [[97], [97, 98], [97, 98, 99], [98], [98, 97], [115, 47, 97], [115, 47, 98], [115, 47, 99], [116], [117], [122], [122, 122]]
theorem at_plain (g k : Nat) : (⟨g, 0, none⟩ : Addr).add k = ⟨g, k, none⟩ := by unfold Addr.add; split <;> simp_all
theorem keysK_len : keysK.length = 12 := rfl
def textsK : List (List UInt8) := [[], [49], [120], [118, 97, 108, 117, 101], [49, 50, 51, 52, 53, 54, 55, 56]]
theorem textsK_len : textsK.length = 5 := rfl
theorem keysK_may : ∀ k ∈ keysK, 1 ≤ k.length ∧ k.length ≤ 16 := by decide
theorem textsK_may : ∀ t ∈ textsK, t.length ≤ 8 := by decide
theorem keysK_rise : keysK.Pairwise fun a b => kl a b = true := by decide
end Go.Proofs.Ytjdfnohlgeoniaa

namespace Go.Proofs.Ytjdfnohlgeoniaa
open Go.RowKit

/-! ## Rows told by what is in them -/

theorem rise_set {ps : List Kv} (h : Rises ps) (p : Kv) : Rises (setL ps p) := by
  refine List.pairwise_append.2 ⟨List.Pairwise.filter _ h, List.pairwise_cons.2 ⟨fun q hq => (List.mem_filter.1 hq).2, List.Pairwise.filter _ h⟩, fun a ha b hb => ?_⟩
  have h1 := (List.mem_filter.1 ha).2
  rcases List.mem_cons.1 hb with rfl | hb
  · exact h1
  · exact kl_trans h1 (List.mem_filter.1 hb).2
theorem rise_del {ps : List Kv} (h : Rises ps) (k : List UInt8) : Rises (delL ps k) := by
  rw [← notL_del h]
  exact List.Pairwise.filter _ h
theorem mem_set {ps : List Kv} {p q : Kv} : q ∈ setL ps p ↔ q = p ∨ (q ∈ ps ∧ q.1 ≠ p.1) := by
  unfold setL loL hiL
  rw [List.mem_append, List.mem_cons, List.mem_filter, List.mem_filter]
  constructor
  · rintro (⟨h1, h2⟩ | rfl | ⟨h1, h2⟩)
    · exact .inr ⟨h1, fun e => by rw [e, kl_irr] at h2; cases h2⟩
    · exact .inl rfl
    · exact .inr ⟨h1, fun e => by rw [e, kl_irr] at h2; cases h2⟩
  · rintro (rfl | ⟨h1, h2⟩)
    · exact .inr (.inl rfl)
    · cases h : kl q.1 p.1
      · cases h' : kl p.1 q.1
        · exact absurd (kl_tri h h') h2
        · exact .inr (.inr ⟨h1, rfl⟩)
      · exact .inl ⟨h1, rfl⟩
theorem set_le (ps : List Kv) (p : Kv) : (setL ps p).length ≤ ps.length + 1 := by
  have h : (setL ps p).Sublist (loL ps p.1 ++ p :: hiL ps p.1) := List.Sublist.refl _
  have e : (loL ps p.1).length + (hiL ps p.1).length ≤ ps.length := by
    unfold loL hiL
    induction ps with
    | nil => simp
    | cons a l ih =>
      have ih := ih (List.Sublist.refl _)
      rw [List.filter_cons, List.filter_cons]
      cases h1 : kl a.1 p.1
      · cases h2 : kl p.1 a.1 <;> simp <;> omega
      · rw [kl_asymm h1]; simp; omega
  unfold setL
  rw [List.length_append, List.length_cons]; omega
theorem rises_ext : ∀ {a b : List Kv}, Rises a → Rises b → (∀ q, q ∈ a ↔ q ∈ b) → a = b
  | [], [], _, _, _ => rfl
  | [], y :: b, _, _, h => by have := (h y).2 (List.mem_cons_self ..); cases this
  | x :: a, [], _, _, h => by have := (h x).1 (List.mem_cons_self ..); cases this
  | x :: a, y :: b, ha, hb, h => by
    obtain ⟨a1, a2⟩ := List.pairwise_cons.1 ha
    obtain ⟨b1, b2⟩ := List.pairwise_cons.1 hb
    have hxy : x = y := by
      rcases List.mem_cons.1 ((h x).1 (List.mem_cons_self ..)) with e | hx
      · exact e
      · rcases List.mem_cons.1 ((h y).2 (List.mem_cons_self ..)) with e | hy
        · exact e.symm
        · have h1 := b1 x hx
          have h2 := a1 y hy
          rw [kl_asymm h1] at h2; cases h2
    subst hxy
    have hr : ∀ q, q ∈ a ↔ q ∈ b := fun q => by
      constructor
      · intro hq
        rcases List.mem_cons.1 ((h q).1 (List.mem_cons_of_mem _ hq)) with e | hq'
        · subst e
          have := a1 q hq
          rw [kl_irr] at this; cases this
        · exact hq'
      · intro hq
        rcases List.mem_cons.1 ((h q).2 (List.mem_cons_of_mem _ hq)) with e | hq'
        · subst e
          have := b1 q hq
          rw [kl_irr] at this; cases this
        · exact hq'
    rw [rises_ext a2 b2 hr]
/-- Keys apart. -/
def Apart (ps : List Kv) : Prop := ps.Pairwise fun a b => a.1 ≠ b.1
theorem Rises.apart {ps : List Kv} (h : Rises ps) : Apart ps := List.Pairwise.imp (fun {a b} hab e => by rw [e, kl_irr] at hab; cases hab) h
theorem Apart.perm {a b : List Kv} (h : a.Perm b) (hb : Apart b) : Apart a := List.Pairwise.perm hb h.symm fun hxy e => hxy e.symm
theorem Apart.at {ps : List Kv} (h : Apart ps) {j : Nat} (hj : j < ps.length) : ∀ q ∈ ps.take j, q.1 ≠ ps[j].1 := by
  intro q hq
  obtain ⟨i, hi, rfl⟩ := List.getElem_of_mem hq
  rw [List.getElem_take]
  rw [List.length_take] at hi
  exact List.pairwise_iff_getElem.1 h i j (by omega) hj (by omega)
/-- Set with some value, then with its own: the next of the row. -/
theorem set_twice {xs tl : List Kv} {j : Nat} (hj : j < tl.length) (ha : Apart tl) (hx : ∀ q, q ∈ xs ↔ q ∈ tl.take j) (t : List UInt8) : ∀ q, q ∈ setL (setL xs (tl[j].1, t)) tl[j] ↔ q ∈ tl.take (j + 1) := by
  intro q
  rw [mem_set, mem_set, List.take_succ_eq_append_getElem hj, List.mem_append, List.mem_singleton, hx]
  constructor
  · rintro (rfl | ⟨rfl | ⟨h1, -⟩, h2⟩)
    · exact .inr rfl
    · exact absurd rfl h2
    · exact .inl h1
  · rintro (h | rfl)
    · exact .inr ⟨.inr ⟨h, ha.at hj q h⟩, ha.at hj q h⟩
    · exact .inl rfl
theorem del_set {ps : List Kv} (h : Rises ps) {p : Kv} (hn : ∀ q ∈ ps, q.1 ≠ p.1) : delL (setL ps p) p.1 = ps := by
  refine rises_ext (rise_del (rise_set h p) p.1) h fun q => ?_
  rw [← notL_del (rise_set h p)]
  unfold notL
  rw [List.mem_filter, mem_set]
  constructor
  · rintro ⟨rfl | ⟨h1, -⟩, h2⟩
    · simp at h2
    · exact h1
  · intro hq
    exact ⟨.inr ⟨hq, hn q hq⟩, by simpa using hn q hq⟩
theorem move_perm {tl : List Kv} {q : Nat} (hq : q < tl.length) : (((([] : List Kv) ++ [tl[q]]) ++ tl.take q) ++ tl.drop (q + 1)).Perm tl := by
  have e : tl = tl.take q ++ tl[q] :: tl.drop (q + 1) := by rw [← List.drop_eq_getElem_cons hq, List.take_append_drop]
  have h2 : (tl.take q ++ tl[q] :: tl.drop (q + 1)).Perm (tl[q] :: (tl.take q ++ tl.drop (q + 1))) := List.perm_middle
  rw [← e] at h2
  rw [List.nil_append, List.append_assoc]
  exact h2.symm

end Go.Proofs.Ytjdfnohlgeoniaa
