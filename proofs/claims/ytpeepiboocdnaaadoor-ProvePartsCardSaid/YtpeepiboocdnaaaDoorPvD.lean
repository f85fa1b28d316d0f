/- The document's own proof of some pairs. -/
import Derived.Test.YtpeepiboocdnaaaDoorPvA
import Derived.Deep.RegionLaw
namespace Go.Proofs.YtpeepiboocdnaaaDoor
open Go.RowKit

theorem OwnQ.block {w : World} {v : Value} {ps : List Kv} (h : OwnQ w v ps) : ∀ k, v.ownBlock = some k → ∃ cs fr, w.heap[k]? = some (.cells cs 23 fr) := by
  obtain ⟨base, hb, h⟩ := h
  intro k hk
  rcases h.2 with ⟨rfl, _⟩ | ⟨g, cap, cur, rfl, _, hg, _⟩
  · simp [Value.ownBlock] at hk
  · simp [Value.ownBlock] at hk
    subst hk
    exact ⟨_, _, hg⟩
theorem OwnHs.block {w : World} {v : Value} {l : List UInt8} {n : Nat} (h : OwnHs w v l n) : ∀ k, v.ownBlock = some k → ∃ cs fr, w.heap[k]? = some (.cells cs 44 fr) := by
  obtain ⟨base, hb, h⟩ := h
  intro k hk
  rcases h.2 with ⟨rfl, _⟩ | ⟨g, cap, cur, rfl, _, hg, _⟩
  · simp [Value.ownBlock] at hk
  · simp [Value.ownBlock] at hk
    subst hk
    exact ⟨_, _, hg⟩
/-- Blocks of unlike types are two. -/
theorem two_types {w : World} {k k' : Nat} {t t' : TypeId} (h : ∃ cs fr, w.heap[k]? = some (.cells cs t fr)) (h' : ∃ cs fr, w.heap[k']? = some (.cells cs t' fr)) (hne : t ≠ t') : k ≠ k' := by
  obtain ⟨cs, fr, h⟩ := h
  obtain ⟨cs', fr', h'⟩ := h'
  rintro rfl
  rw [h] at h'
  injection h' with h'
  injection h' with _ h'
  exact hne h'
/-- The document's loop: the proof's variable at G, so many pairs and so many paths in it. -/
structure PrS (w : World) (G : Nat) (CR : Array Value) (ps : List Kv) (i kp kq : Nat) (wr : World) (pv rw : Value) (rs : List Ph) : Prop where
  gG : G = w.heap.size + 1
  hG : wr.heap[G]? = some (.cells #[.int .i64 (ps.length : Nat), .int .i64 (i : Nat), pv, rw] 27 (0, 0))
  hR : wr.heap[w.heap.size]? = some (.cells CR 27 (0, 0))
  op : OwnQ wr pv ((ps.drop i).take kp)
  ov : OwnV 39 wr rw (rs.map hv)
  ow : OwnPaths wr rs
  hb : rs.map (fun r => r.2.1) = pathsB ps i kq
  gw : w.grownBy wr none
  np : ∀ k, pv.ownBlock = some k → w.heap.size ≤ k
  nr : ∀ k, rw.ownBlock = some k → w.heap.size ≤ k
  nw : ∀ r ∈ rs, ∀ k, (hv r).ownBlock = some k → w.heap.size ≤ k
section
variable {w wr w' : World} {G i kp kq : Nat} {CR : Array Value} {ps : List Kv} {pv rw pv' rw' : Value} {rs : List Ph}
theorem PrS.kept (h : PrS w G CR ps i kp kq wr pv rw rs) (hg : wr.grownBy w' none) : PrS w G CR ps i kp kq w' pv rw rs :=
  ⟨h.gG, keep_of h.hG hg, keep_of h.hR hg, h.op.kept hg, h.ov.kept hg, h.ow.kept hg, h.hb, grown_none h.gw hg, h.np, h.nr, h.nw⟩
theorem PrS.cells (h : PrS w G CR ps i kp kq wr pv rw rs) : wr.cell? ⟨G, 2, none⟩ = some pv ∧ wr.cell? ⟨G, 3, none⟩ = some rw ∧ wr.frozen? ⟨G, 2, none⟩ = false ∧ wr.frozen? ⟨G, 3, none⟩ = false :=
  ⟨by rw [cell_of_row wr G 2 _ _ _ h.hG]; rfl, by rw [cell_of_row wr G 3 _ _ _ h.hG]; rfl, frozen_of_row wr G 2 _ _ h.hG, frozen_of_row wr G 3 _ _ h.hG⟩
theorem PrS.keepP (h : PrS w G CR ps i kp kq wr pv rw rs) (hg : wr.grownBy w' pv.ownBlock) : w'.heap[G]? = some (.cells #[.int .i64 (ps.length : Nat), .int .i64 (i : Nat), pv, rw] 27 (0, 0)) :=
  (hg.block G (Array.getElem?_eq_some_iff.1 h.hG).1 (fun e => two_types (h.op.block G e.symm) (k' := G) ⟨_, _, h.hG⟩ (by decide) rfl)).trans h.hG
theorem PrS.keepR (h : PrS w G CR ps i kp kq wr pv rw rs) (hg : wr.grownBy w' rw.ownBlock) : w'.heap[G]? = some (.cells #[.int .i64 (ps.length : Nat), .int .i64 (i : Nat), pv, rw] 27 (0, 0)) :=
  (hg.block G (Array.getElem?_eq_some_iff.1 h.hG).1 (fun e => two_types (h.ov.block G e.symm) (k' := G) ⟨_, _, h.hG⟩ (by decide) rfl)).trans h.hG
/-- The result's variable is written: the proof, read. -/
theorem PrS.done (h : PrS w G CR ps i kp kq wr pv rw rs) (cs : Array Value) : ∃ A c B d, pv = .slice A ((ps.drop i).take kp).length c ∧ rw = .slice B (pathsB ps i kq).length d ∧ IsPf (wr.setRow w.heap.size cs) ⟨ps.length, i, (ps.drop i).take kp, pathsB ps i kq⟩ A c B d rs ∧ NewPf w.heap.size A B rs ∧ w.grownBy (wr.setRow w.heap.size cs) none := by
  have tR : ∃ cs fr, wr.heap[w.heap.size]? = some (.cells cs 27 fr) := ⟨_, _, h.hR⟩
  have hs : wr.grownBy (wr.setRow w.heap.size cs) (some w.heap.size) := grown_setRow (grown_refl _ _) (.inl rfl) _
  have op1 : OwnQ (wr.setRow w.heap.size cs) pv ((ps.drop i).take kp) := h.op.keep hs (by
    cases e : pv.ownBlock with
    | none => exact .inl rfl
    | some k => exact .inr fun e2 => two_types (h.op.block k e) tR (by decide) (by injection e2))
  have ov1 : OwnV 39 (wr.setRow w.heap.size cs) rw (rs.map hv) := h.ov.keep hs (by
    cases e : rw.ownBlock with
    | none => exact .inl rfl
    | some k => exact .inr fun e2 => two_types (h.ov.block k e) tR (by decide) (by injection e2))
  have ow1 : OwnPaths (wr.setRow w.heap.size cs) rs := h.ow.keep hs (fun r hr => by
    cases e : (hv r).ownBlock with
    | none => exact .inl rfl
    | some k => exact .inr fun e2 => two_types ((h.ow r hr).block k e) tR (by decide) (by injection e2))
  obtain ⟨A, c, e1, hc, hr⟩ := op1.toPS
  obtain ⟨B, d, e2, hd, -, hr2⟩ := ov1.slice
  have hl : (rs.map hv).length = (pathsB ps i kq).length := by rw [← h.hb, List.length_map, List.length_map]
  rw [hl] at e2 hd
  exact ⟨A, c, B, d, e1, e2, ⟨hc, hr, hd, ⟨hr2, fun r hr => path_ok (ow1 r hr)⟩, h.hb⟩, ⟨fun ad e => h.np _ (by rw [e1, e]; rfl), fun ad e => h.nr _ (by rw [e2, e]; rfl), fun r hr ad e => h.nw r hr _ (by unfold hv; rw [e]; rfl)⟩, grown_setRow h.gw (.inr (Nat.le_refl _)) _⟩
theorem PrS.pair (h : PrS w G CR ps i kp kq wr pv rw rs) (hg : Grew wr w' pv pv') (ho : OwnQ w' pv' ((ps.drop i).take (kp + 1))) : PrS w G CR ps i (kp + 1) kq (w'.setCell ⟨G, 2, none⟩ pv') pv' rw rs := by
  have tG : ∃ cs fr, wr.heap[G]? = some (.cells cs 27 fr) := ⟨_, _, h.hG⟩
  have tR : ∃ cs fr, wr.heap[w.heap.size]? = some (.cells cs 27 fr) := ⟨_, _, h.hR⟩
  have pG : ∀ k, pv.ownBlock = some k → k ≠ G := fun k e => two_types (h.op.block k e) tG (by decide)
  have pR : ∀ k, pv.ownBlock = some k → k ≠ w.heap.size := fun k e => two_types (h.op.block k e) tR (by decide)
  have lG := (Array.getElem?_eq_some_iff.1 h.hG).1
  have lR := (Array.getElem?_eq_some_iff.1 h.hR).1
  have kG : w'.heap[G]? = some (.cells #[.int .i64 (ps.length : Nat), .int .i64 (i : Nat), pv, rw] 27 (0, 0)) := (hg.1.block G lG (fun e => pG G e.symm rfl)).trans h.hG
  have kR : w'.heap[w.heap.size]? = some (.cells CR 27 (0, 0)) := (hg.1.block _ lR (fun e => pR _ e.symm rfl)).trans h.hR
  have rp : rw.ownBlock = none ∨ rw.ownBlock ≠ pv.ownBlock := by
    cases e : rw.ownBlock with
    | none => exact .inl rfl
    | some k => exact .inr fun e2 => two_types (h.ov.block k e) (h.op.block k e2.symm) (by decide) rfl
  have hsG : w'.grownBy (w'.setCell ⟨G, 2, none⟩ pv') (some G) := grown_set (grown_refl _ _) (.inl rfl) _
  have tG' : ∃ cs fr, w'.heap[G]? = some (.cells cs 27 fr) := ⟨_, _, kG⟩
  have ov1 := h.ov.keep hg.1 rp
  have ow1 : OwnPaths w' rs := h.ow.keep hg.1 (fun r hr => by
    cases e : (hv r).ownBlock with
    | none => exact .inl rfl
    | some k => exact .inr fun e2 => two_types ((h.ow r hr).block k e) (h.op.block k e2.symm) (by decide) rfl)
  have wne : w.heap.size ≠ G := by rw [h.gG]; omega
  refine ⟨h.gG, heap_setCell_same w' G 2 _ _ _ kG, (Below.heap_setCell w' ⟨G, 2, none⟩ _ w.heap.size (fun e => wne e)).trans kR, ho.keep hsG ?_, ov1.keep hsG ?_, ow1.keep hsG (fun r hr => ?_), h.hb, ?_, fun k e => ?_, h.nr, h.nw⟩
  · cases e : pv'.ownBlock with
    | none => exact .inl rfl
    | some k => exact .inr fun e2 => two_types (ho.block k e) tG' (by decide) (by injection e2)
  · cases e : rw.ownBlock with
    | none => exact .inl rfl
    | some k => exact .inr fun e2 => two_types (ov1.block k e) tG' (by decide) (by injection e2)
  · cases e : (hv r).ownBlock with
    | none => exact .inl rfl
    | some k => exact .inr fun e2 => two_types ((ow1 r hr).block k e) tG' (by decide) (by injection e2)
  · exact grown_set (grown_trans h.gw hg.1 (.inr fun k e => h.np k e)) (.inr (by show w.heap.size ≤ G; rw [h.gG]; omega)) _
  · rcases hg.2 with e2 | ⟨k2, e2, hl⟩
    · exact h.np k (by rw [← e2]; exact e)
    · rw [e] at e2; injection e2 with e2
      have := h.gw.size; omega
theorem PrS.path (h : PrS w G CR ps i kp kq wr pv rw rs) {r : Ph} (hr : OwnHs wr (hv r) r.2.1 r.2.2.1) (he : r.2.1 = pathB ps (i + kq)) (hw : ∀ k, (hv r).ownBlock = some k → w.heap.size ≤ k) (hg : Grew wr w' rw rw') (ho : OwnV 39 w' rw' (rs.map hv ++ [hv r])) : PrS w G CR ps i kp (kq + 1) (w'.setCell ⟨G, 3, none⟩ rw') pv rw' (rs ++ [r]) := by
  have tG : ∃ cs fr, wr.heap[G]? = some (.cells cs 27 fr) := ⟨_, _, h.hG⟩
  have tR : ∃ cs fr, wr.heap[w.heap.size]? = some (.cells cs 27 fr) := ⟨_, _, h.hR⟩
  have pG : ∀ k, rw.ownBlock = some k → k ≠ G := fun k e => two_types (h.ov.block k e) tG (by decide)
  have pR : ∀ k, rw.ownBlock = some k → k ≠ w.heap.size := fun k e => two_types (h.ov.block k e) tR (by decide)
  have lG := (Array.getElem?_eq_some_iff.1 h.hG).1
  have lR := (Array.getElem?_eq_some_iff.1 h.hR).1
  have kG : w'.heap[G]? = some (.cells #[.int .i64 (ps.length : Nat), .int .i64 (i : Nat), pv, rw] 27 (0, 0)) := (hg.1.block G lG (fun e => pG G e.symm rfl)).trans h.hG
  have kR : w'.heap[w.heap.size]? = some (.cells CR 27 (0, 0)) := (hg.1.block _ lR (fun e => pR _ e.symm rfl)).trans h.hR
  have hsG : w'.grownBy (w'.setCell ⟨G, 3, none⟩ rw') (some G) := grown_set (grown_refl _ _) (.inl rfl) _
  have tG' : ∃ cs fr, w'.heap[G]? = some (.cells cs 27 fr) := ⟨_, _, kG⟩
  have op1 : OwnQ w' pv ((ps.drop i).take kp) := h.op.keep hg.1 (by
    cases e : pv.ownBlock with
    | none => exact .inl rfl
    | some k => exact .inr fun e2 => two_types (h.op.block k e) (h.ov.block k e2.symm) (by decide) rfl)
  have hall : ∀ q ∈ rs ++ [r], OwnHs wr (hv q) q.2.1 q.2.2.1 := fun q hq => by
    rcases List.mem_append.1 hq with hq | hq
    · exact h.ow q hq
    · rw [List.mem_singleton.1 hq]; exact hr
  have ow1 : OwnPaths w' (rs ++ [r]) := OwnPaths.keep hall hg.1 (fun q hq => by
    cases e : (hv q).ownBlock with
    | none => exact .inl rfl
    | some k => exact .inr fun e2 => two_types ((hall q hq).block k e) (h.ov.block k e2.symm) (by decide) rfl)
  have wne : w.heap.size ≠ G := by rw [h.gG]; omega
  have ho' : OwnV 39 w' rw' ((rs ++ [r]).map hv) := by rw [List.map_append]; exact ho
  refine ⟨h.gG, heap_setCell_same w' G 3 _ _ _ kG, (Below.heap_setCell w' ⟨G, 3, none⟩ _ w.heap.size (fun e => wne e)).trans kR, op1.keep hsG ?_, ho'.keep hsG ?_, ow1.keep hsG (fun r hr => ?_), ?_, ?_, h.np, fun k e => ?_, fun q hq k e => ?_⟩
  · cases e : pv.ownBlock with
    | none => exact .inl rfl
    | some k => exact .inr fun e2 => two_types (op1.block k e) tG' (by decide) (by injection e2)
  · cases e : rw'.ownBlock with
    | none => exact .inl rfl
    | some k => exact .inr fun e2 => two_types (ho'.block k e) tG' (by decide) (by injection e2)
  · cases e : (hv r).ownBlock with
    | none => exact .inl rfl
    | some k => exact .inr fun e2 => two_types ((ow1 r hr).block k e) tG' (by decide) (by injection e2)
  · rw [List.map_append, h.hb, pathsB_next]; simp [he]
  · exact grown_set (grown_trans h.gw hg.1 (.inr fun k e => h.nr k e)) (.inr (by show w.heap.size ≤ G; rw [h.gG]; omega)) _
  · rcases hg.2 with e2 | ⟨k2, e2, hl⟩
    · exact h.nr k (by rw [← e2]; exact e)
    · rw [e] at e2; injection e2 with e2
      have := h.gw.size; omega
  · rcases List.mem_append.1 hq with hq | hq
    · exact h.nw q hq k e
    · rw [List.mem_singleton.1 hq] at e; exact hw k e
end
end Go.Proofs.YtpeepiboocdnaaaDoor
