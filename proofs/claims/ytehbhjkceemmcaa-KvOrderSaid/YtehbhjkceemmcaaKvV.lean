/- Rows of pairs of the call's own as values of a region that draws its order. -/
import Derived.Test.YtehbhjkceemmcaaKvM
import Derived.Test.YtehbhjkceemmcaaKF
namespace Go.Proofs.Ytehbhjkceemmcaa
open Go.RowKit

theorem LastsB.ownQ {al : Nat → Bool} {k : Nat} (ha : al k = false) (l : List Kv) : LastsB al k fun v w => OwnQ w v l := LastsB.of ha (lasts_ownQ l)
theorem ownQ_block {w : World} {u : Value} {l : List Kv} (h : OwnQ w u l) : u = .slice none 0 0 ∨ ∃ g n c, u = .slice (some ⟨g, 0, none⟩) n c := by
  obtain ⟨base, hb, _, h⟩ := h
  rcases h with ⟨rfl, _⟩ | ⟨g, cap, cur, rfl, _⟩
  · exact .inl rfl
  · exact .inr ⟨g, _, cap, rfl⟩
theorem ownQ_mem {w : World} {u : Value} {l : List Kv} (h : OwnQ w u l) : ∀ g, u.ownBlock = some g → g ∈ blocksOf u := by
  intro g e
  rcases ownQ_block h with rfl | ⟨g', n, c, rfl⟩
  · cases e
  · have e' : g' = g := by simpa [Value.ownBlock] using e
    rw [← e']; exact List.mem_singleton.2 rfl
theorem memQ_own {w : World} {u : Value} {l : List Kv} (h : OwnQ w u l) : ∀ g ∈ blocksOf u, u.ownBlock = some g := by
  intro g e
  rcases ownQ_block h with rfl | ⟨g', n, c, rfl⟩
  · cases e
  · have e' : g ∈ [g'] := e
    rw [List.mem_singleton] at e'
    rw [e']; rfl
theorem ownQ_lt {w : World} {u : Value} {l : List Kv} (h : OwnQ w u l) : ∀ g ∈ blocksOf u, g < w.heap.size := fun g e => h.lt g (memQ_own h g e)
theorem grewQ_blocks {w w' : World} {u v : Value} {l l' : List Kv} {p : Nat → Prop} (hu : OwnQ w u l) (hv : OwnQ w' v l') (hw : Grew w w' u v) : ∀ g ∈ blocksOf v, w.heap.size ≤ g ∨ g ∈ blocksOf u ∨ p g := by
  intro g e
  have e1 := memQ_own hv g e
  rcases hw.2 with e2 | ⟨g', e2, h⟩
  · exact .inr (.inl (ownQ_mem hu g (by rw [← e2, e1])))
  · rw [e1] at e2; cases e2; exact .inl h
/-- A row of one pair. -/
def QOne (p : Kv) (v : Value) (w : World) : Prop := ∃ b, v = .slice (some ⟨b, 0, none⟩) 1 1 ∧ RdQ w (some ⟨b, 0, none⟩) [p]
theorem LastsB.qone {al : Nat → Bool} {k : Nat} (ha : al k = false) (p : Kv) : LastsB al k (QOne p) := by
  rintro v w w' row ⟨b, rfl, h⟩ hg hne
  exact ⟨b, rfl, RdAt.keep h hg (fun ad e => by cases e; exact hne b (by simp [bl, ha, blocksOf]))⟩
theorem qone_new (w : World) (p : Kv) : QOne p (.slice (some ⟨w.heap.size, 0, none⟩) 1 1) (w.alloc (.cells #[.string ⟨p.1.toArray⟩, .string ⟨p.2.toArray⟩] 26)) := ⟨_, rfl, rd_row (alloc_atQ rfl)⟩
theorem OwnQ.form {w : World} {v : Value} {ps : List Kv} (h : OwnQ w v ps) : ∃ A c, v = .slice A ps.length c ∧ ps.length ≤ c := by
  obtain ⟨A, c, e, hc, -⟩ := h.toPS
  exact ⟨A, c, e, hc⟩
end Go.Proofs.Ytehbhjkceemmcaa
