/- Rows of rows of pairs, kept over the calls on a store. -/
import Derived.Test.YtjdfnohlgeoniaaDoorStG
namespace Go.Proofs.YtjdfnohlgeoniaaDoor
open Go.RowKit

/-- It reads so, and no call on the store will write it. -/
def Rq.ok (w : World) (B : Nat → Prop) (r : Rq) : Prop := RdQ w r.1 r.2.1 ∧ r.2.1.length ≤ r.2.2 ∧ ∀ ad, r.1 = some ad → ¬ B ad.block ∧ ad.block < w.heap.size
theorem Rq.ok.did {w w' : World} {B R B' R' : Nat → Prop} {r : Rq} (h : r.ok w B) (hd : Did w w' B R B' R') : r.ok w' B' :=
  ⟨(hd.rd h.1 h.2.2).1, h.2.1, (hd.rd h.1 h.2.2).2⟩
theorem Rq.ok.kept {w w' : World} {B : Nat → Prop} {r : Rq} (h : r.ok w B) (hg : w.grownBy w' none) : r.ok w' B :=
  ⟨RdAt.kept h.1 hg, h.2.1, fun ad e => ⟨(h.2.2 ad e).1, Nat.lt_of_lt_of_le (h.2.2 ad e).2 hg.size⟩⟩
/-- A call that writes a row of its own besides. -/
theorem Rq.ok.own {w w' : World} {B : Nat → Prop} {r : Rq} {row : Option Nat} (h : r.ok w B) (hg : w.grownBy w' row) (hne : ∀ ad, r.1 = some ad → some ad.block ≠ row) : r.ok w' B :=
  ⟨RdAt.keep h.1 hg hne, h.2.1, fun ad e => ⟨(h.2.2 ad e).1, Nat.lt_of_lt_of_le (h.2.2 ad e).2 hg.size⟩⟩
theorem Rq.of_pb {w : World} {B : Nat → Prop} {v : Value} {ps : List Kv} (h : PB w v ps) (hb : ∀ x, v.ownBlock = some x → ¬ B x) : ∃ r : Rq, v = rv r ∧ r.2.1 = ps ∧ r.ok w B := by
  obtain ⟨A, c, rfl, hc, hr, hl⟩ := h.form
  exact ⟨(A, ps, c), rfl, rfl, hr, hc, fun ad e => ⟨hb _ (by subst e; rfl), hl ad e⟩⟩
/-- Many of them. -/
def OkRows (w : World) (B : Nat → Prop) (rs : List Rq) : Prop := ∀ r ∈ rs, r.ok w B
theorem OkRows.did {w w' : World} {B R B' R' : Nat → Prop} {rs : List Rq} (h : OkRows w B rs) (hd : Did w w' B R B' R') : OkRows w' B' rs := fun r hr => (h r hr).did hd
theorem OkRows.kept {w w' : World} {B : Nat → Prop} {rs : List Rq} (h : OkRows w B rs) (hg : w.grownBy w' none) : OkRows w' B rs := fun r hr => (h r hr).kept hg
theorem OkRows.add {w : World} {B : Nat → Prop} {rs : List Rq} {r : Rq} (h : OkRows w B rs) (hr : r.ok w B) : OkRows w B (rs ++ [r]) := fun q hq => by
  rcases List.mem_append.1 hq with hq | hq
  · exact h q hq
  · rw [List.mem_singleton.1 hq]; exact hr
/-- An own row of cells that no call on the store writes is kept over one. -/
theorem Did.ownV {w w' : World} {B R B' R' : Nat → Prop} {t : TypeId} {v : Value} {xs : List Value} (hd : Did w w' B R B' R') (h : OwnV t w v xs) (hb : ∀ g, v.ownBlock = some g → ¬ B g) : OwnV t w' v xs ∧ ∀ g, v.ownBlock = some g → ¬ B' g := by
  have hlt := h.lt
  refine ⟨?_, fun g e hx => (hd.b g hx).elim (hb g e) (fun hl => absurd (hlt g e) (Nat.not_lt.2 hl))⟩
  obtain ⟨base, hbs, h1, h2⟩ := h
  refine ⟨base, Nat.le_trans hbs hd.grew.size, h1, ?_⟩
  rcases h2 with hn | ⟨g, cap, cur, rfl, hbg, hgg, rest⟩
  · exact .inl hn
  · exact .inr ⟨g, cap, cur, rfl, hbg, (hd.grew.block g (hlt g rfl) (hb g rfl)).trans hgg, rest⟩
/-- What is kept of a height, and what isn't. -/
theorem Vers.at_in {s : Vers} {h : Nat} (h1 : 1 ≤ h) (h2 : h ≤ s.all.length) (h3 : s.all.length < h + 6) : s.at? (h : Int) = some (s.all[h - 1]'(by omega)) := by
  unfold Vers.at?
  rw [if_pos ⟨by omega, by omega⟩, show ((h : Int) - 1).toNat = h - 1 by omega, List.getElem?_eq_getElem (by omega)]
theorem Vers.at_no {s : Vers} {h : Int} (hn : ¬ (1 ≤ h ∧ h ≤ s.all.length ∧ (s.all.length : Int) < h + 6)) : s.at? h = none := by
  unfold Vers.at?
  split
  · exact List.getElem?_eq_none (by omega)
  · rfl
theorem Vers.root_in {s : Vers} {h : Nat} (h1 : 1 ≤ h) (h2 : h ≤ s.all.length) (h3 : s.all.length < h + 6) : s.rootAt (h : Int) = storeRootL (s.all[h - 1]'(by omega)) := by
  unfold Vers.rootAt; rw [Vers.at_in h1 h2 h3]
theorem Vers.root_no {s : Vers} {h : Int} (hn : ¬ (1 ≤ h ∧ h ≤ s.all.length ∧ (s.all.length : Int) < h + 6)) : s.rootAt h = List.replicate 32 0 := by
  unfold Vers.rootAt; rw [Vers.at_no hn]
theorem Vers.root_len (s : Vers) (h : Int) : (s.rootAt h).length = 32 := by
  unfold Vers.rootAt
  split
  · exact boundL_len _ _
  · simp
end Go.Proofs.YtjdfnohlgeoniaaDoor
