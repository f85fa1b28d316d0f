/- Small facts on hashes' rows, a constant text as bytes. -/
import Derived.Test.YtmfnncfiaaeknaaDoorSum
import Derived.Lib.SlBytesConst
namespace Go.Proofs.YtmfnncfiaaeknaaDoor
open Go.RowKit

theorem sum_nil_at : ∀ j, j < 4 → (sumL [])[j]? = ([0xe3, 0xb0, 0xc4, 0x42] : List UInt8)[j]? := fun j h => by
  rw [← sum_nil, List.getElem?_take_of_lt h]
theorem sum_abc_at : ∀ j, j < 4 → (sumL [97, 98, 99])[j]? = ([0xba, 0x78, 0x16, 0xbf] : List UInt8)[j]? := fun j h => by
  rw [← sum_abc, List.getElem?_take_of_lt h]
theorem cell_bv {w : World} {g j : Nat} {X : List UInt8} {t : TypeId} {fr : Nat × Nat} (h : w.heap[g]? = some (.cells (X.map bv).toArray t fr)) {b : UInt8} (hb : X[j]? = some b) : w.cell? ⟨g, j, none⟩ = some (.int .u8 (b.toNat : Int)) := by
  rw [cell_of_row w _ _ _ _ _ h, List.getElem?_toArray, List.getElem?_map, hb]
  rfl

/-- Two rows made, the first one written. -/
theorem two_rows {w w' : World} {C1 C2 X : Array Value} {t : TypeId} (h : ((w.alloc (.cells C1 t)).alloc (.cells C2 t)).setRow w.heap.size X = w') :
    Hid (w'.heap[w.heap.size]? = some (.cells X t (0, 0)) ∧ w'.heap[w.heap.size + 1]? = some (.cells C2 t (0, 0)) ∧ w.grownBy w' none) := by
  show _ ∧ _
  subst h
  exact ⟨setRow_heap _ _ _ _ _ _ (heap_alloc_1 _ _ _), (setRow_other _ _ _ _ (by omega)).trans (heap_alloc_2 _ _ _), grown_setRow (grown_alloc (grown_alloc (grown_refl _ _) _) _) (.inr (Nat.le_refl _)) _⟩
theorem two_0 {w w' : World} {g : Nat} {X Y : Array Value} {t : TypeId} (h : w.heap[g]? = some (.cells X t (0, 0))) (hw : w.setRow (g + 1) Y = w') : Hid (w'.heap[g]? = some (.cells X t (0, 0))) := by
  subst hw
  exact (setRow_other _ _ _ _ (by omega)).trans h
theorem two_1 {w w' : World} {g : Nat} {C Y : Array Value} {t : TypeId} (h : w.heap[g + 1]? = some (.cells C t (0, 0))) (hw : w.setRow (g + 1) Y = w') : Hid (w'.heap[g + 1]? = some (.cells Y t (0, 0))) := by
  subst hw
  exact setRow_heap _ _ _ _ _ _ h
theorem ret_w2 {a b : Bool} (h : a = b) : Ending.returned (.bool a) = .returned (.bool b) := by rw [h]
theorem conv_const (w : World) (C : Array Value) (n c : Nat) : (convert 24 24 (.slice (some ⟨w.heap.size, 0, none⟩) n c)).run Tryd.prog (w.alloc (.cells C 5)) = .ok (.slice (some ⟨w.heap.size, 0, none⟩) n c) (w.alloc (.cells C 5 (C.size, C.size + 1))) :=
  Lib.run_convert_bytes_const w 24 5 C n c Tryd.underlying24 Tryd.underlying5
end Go.Proofs.YtmfnncfiaaeknaaDoor
