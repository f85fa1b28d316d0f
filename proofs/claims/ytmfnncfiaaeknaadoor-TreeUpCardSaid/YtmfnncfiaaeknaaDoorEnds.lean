/- The words' bytes, a length's bytes, how many blocks: the contracts of package sha's hashOf, putLength, Blocks. -/
import Derived.Test.YtmfnncfiaaeknaaDoorStir
namespace Go.Proofs.YtmfnncfiaaeknaaDoor
open Go.RowKit

theorem outB_get (s : St) : ∀ k, k < 32 → (outB s).getD k 0 = UInt8.ofNat ((s.cells.getD (k / 4) 0).toNat / 2 ^ (24 - 8 * (k % 4)))
  | 0, _ => rfl
  | 1, _ => rfl
  | 2, _ => rfl
  | 3, _ => rfl
  | 4, _ => rfl
  | 5, _ => rfl
  | 6, _ => rfl
  | 7, _ => rfl
  | 8, _ => rfl
  | 9, _ => rfl
  | 10, _ => rfl
  | 11, _ => rfl
  | 12, _ => rfl
  | 13, _ => rfl
  | 14, _ => rfl
  | 15, _ => rfl
  | 16, _ => rfl
  | 17, _ => rfl
  | 18, _ => rfl
  | 19, _ => rfl
  | 20, _ => rfl
  | 21, _ => rfl
  | 22, _ => rfl
  | 23, _ => rfl
  | 24, _ => rfl
  | 25, _ => rfl
  | 26, _ => rfl
  | 27, _ => rfl
  | 28, _ => rfl
  | 29, _ => rfl
  | 30, _ => rfl
  | 31, _ => rfl
  | k + 32, h => absurd h (by omega)
/-- A row of 32 bytes of which so many are there. -/
def rowH (l : List UInt8) : Array Value := (l.map bv ++ List.replicate (32 - l.length) (Value.int .u8 0)).toArray
theorem rowH_next (l : List UInt8) (x : UInt8) (h : l.length < 32) : (rowH l).setIfInBounds l.length (bv x) = rowH (l ++ [x]) := by
  unfold rowH
  obtain ⟨k, hk⟩ : ∃ k, 32 - l.length = k + 1 := ⟨32 - l.length - 1, by omega⟩
  have hk' : 32 - (l ++ [x]).length = k := by simp; omega
  rw [hk, hk']
  apply Array.ext'
  simp [List.replicate_succ]
theorem rowH_zero (l : List UInt8) (j : Nat) (h : l.length ≤ j) (h' : j < 32) : (rowH l)[j]? = some (.int .u8 0) := by
  unfold rowH
  rw [List.getElem?_toArray, List.getElem?_append_right (by simpa using h), List.getElem?_replicate]
  simp; omega
theorem rowH_store {w : World} {g n : Nat} {l : List UInt8} {x : UInt8} {t : TypeId} (h : w.heap[g]? = some (.cells (rowH l) t (0, 0))) (hn : l.length = n) (hl : n < 32) :
    (w.setCell ⟨g, n, none⟩ (.int .u8 (x.toNat : Int))).heap[g]? = some (.cells (rowH (l ++ [x])) t (0, 0)) := by
  subst hn
  exact heap_setCell_to h (rowH_next l x hl)
theorem rowH_full {l : List UInt8} (h : l.length = 32) : rowH l = (l.map bv).toArray := by simp [rowH, h]
theorem rowH_size (l : List UInt8) (h : l.length ≤ 32) : (rowH l).size = 32 := by simp [rowH]; omega
theorem bv_all' (l : List UInt8) : (l.map bv).toArray.all (·.oneCell') = true := by
  rw [Array.all_eq_true_iff_forall_mem]
  intro v hv
  simp only [List.mem_toArray, List.mem_map] at hv
  obtain ⟨x, _, rfl⟩ := hv
  rfl
theorem heap_alloc_3 (w : World) (o1 o2 o3 : Obj) : (((w.alloc o1).alloc o2).alloc o3).heap[w.heap.size]? = some o1 ∧ (((w.alloc o1).alloc o2).alloc o3).heap[w.heap.size + 1]? = some o2 ∧ (((w.alloc o1).alloc o2).alloc o3).heap[w.heap.size + 2]? = some o3 := by
  refine ⟨(Below.heap_alloc _ o3 w.heap.size (by simp; omega)).trans (heap_alloc_1 w o1 o2), (Below.heap_alloc _ o3 (w.heap.size + 1) (by simp)).trans (heap_alloc_2 w o1 o2), ?_⟩
  have := heap_alloc_new ((w.alloc o1).alloc o2) o3
  rwa [show ((w.alloc o1).alloc o2).heap.size = w.heap.size + 2 from by simp] at this
theorem St.cells_get (s : St) : ∀ j, j < 8 → #[Value.int .u32 (s.a.toNat : Int), .int .u32 (s.b.toNat : Int), .int .u32 (s.c.toNat : Int), .int .u32 (s.d.toNat : Int), .int .u32 (s.e.toNat : Int), .int .u32 (s.f.toNat : Int), .int .u32 (s.g.toNat : Int), .int .u32 (s.h.toNat : Int)][j]? = some (.int .u32 ((s.cells.getD j 0).toNat : Int))
  | 0, _ => rfl
  | 1, _ => rfl
  | 2, _ => rfl
  | 3, _ => rfl
  | 4, _ => rfl
  | 5, _ => rfl
  | 6, _ => rfl
  | 7, _ => rfl
  | j + 8, h => absurd h (by omega)

set_option maxRecDepth 100000 in
set_option maxHeartbeats 1000000 in
theorem hashOf_any (s : St) (w : World) :
    Calls Tryd.prog 52 #[stV s] w fun e w' => e = .returned (.agg ((outB s).map bv).toArray) ∧ w.grownBy w' none := by
  unfold stV
  go_enter Tryd.func52, Tryd.ntmps52
  go_wp2
  go_loopw [5] (fun i wr => ∃ k : Nat, k ≤ 32 ∧ i = .int .i64 k ∧ Hid (wr.heap[w.heap.size]? = some (.cells #[Value.int .u32 (s.a.toNat : Int), .int .u32 (s.b.toNat : Int), .int .u32 (s.c.toNat : Int), .int .u32 (s.d.toNat : Int), .int .u32 (s.e.toNat : Int), .int .u32 (s.f.toNat : Int), .int .u32 (s.g.toNat : Int), .int .u32 (s.h.toNat : Int)] 72 (0, 0))) ∧ Hid (wr.heap[w.heap.size + 1]? = some (.cells (rowH []) 23 (0, 0))) ∧ Hid (wr.heap[w.heap.size + 2]? = some (.cells (rowH ((outB s).take k)) 23 (0, 0))) ∧ w.grownBy wr none) (fun i _ => 32 - (intOf i).toNat)
  case atStart => exact ⟨0, by omega, rfl, (heap_alloc_3 _ _ _ _).1, (heap_alloc_3 _ _ _ _).2.1, (heap_alloc_3 _ _ _ _).2.2, grown_alloc (grown_alloc (grown_alloc (grown_refl _ _) _) _) _⟩
  case round =>
    obtain ⟨k, hk, rfl, hq0, hq1, hq2, hg⟩ := hrel
    have hlen : Hid ((outB s).length = 32) := outB_len s
    by_cases hlt : k < 32
    · have hc : wr.cell? ⟨w.heap.size, k / 4, none⟩ = some (.int .u32 ((s.cells.getD (k / 4) 0).toNat : Int)) := by
        rw [cell_of_row wr _ _ _ _ _ hq0.out]; exact St.cells_get s _ (by omega)
      have hz : wr.cell? ⟨w.heap.size + 2, k, none⟩ = some (.int .u8 0) := by
        rw [cell_of_row wr _ _ _ _ _ hq2.out]; exact rowH_zero _ _ (by rw [List.length_take, hlen.out]; omega) hlt
      have hf : wr.frozen? ⟨w.heap.size + 2, k, none⟩ = false := frozen_of_row wr _ _ _ _ hq2.out
      obtain ⟨x, hx⟩ : ∃ x, x = s.cells.getD (k / 4) 0 := ⟨_, rfl⟩
      rw [← hx] at hc
      have HX := Lib.hid hx
      clear hx
      have hv : (x.toNat : Int) / 2 ^ (24 - 8 * (k % 4)) % 256 = (((outB s).getD k 0).toNat : Int) := by
        rw [outB_get s k hlt, ← HX.out, UInt8.toNat_ofNat']
        simp only [Int.natCast_emod, Int.natCast_ediv, Int.natCast_pow]
        rfl
      obtain ⟨y, hy⟩ : ∃ y, y = (outB s).getD k 0 := ⟨_, rfl⟩
      rw [← hy] at hv
      have HY := Lib.hid hy
      clear hy
      go_wp2
      go_roundw
      case rel =>
        refine ⟨k + 1, by omega, by go_num, ?_, ?_, ?_, grown_set hg (.inr (by show _ ≤ w.heap.size + 1 + 1; omega)) _⟩
        · show _ = _
          exact (Below.heap_setCell wr ⟨w.heap.size + 2, k, none⟩ _ w.heap.size (by simp)).trans hq0.out
        · show _ = _
          exact (Below.heap_setCell wr ⟨w.heap.size + 2, k, none⟩ _ (w.heap.size + 1) (by simp)).trans hq1.out
        · show _ = _
          rw [List.take_succ_eq_append_getElem (by rw [hlen.out]; exact hlt), ← getD_at _ _ 0, ← HY.out]
          exact rowH_store hq2.out (by rw [List.length_take, hlen.out]; omega) (by omega)
      case measure => simp [intOf]; omega
    · have hk32 : k = 32 := by omega
      subst hk32
      obtain ⟨X, hX⟩ : ∃ X, X = outB s := ⟨_, rfl⟩
      rw [← hX, List.take_of_length_le (by rw [hX, hlen.out]; omega)] at hq2
      have hXl : Hid (X.length = 32) := by rw [hX]; exact hlen
      have HX := Lib.hid hX
      have hqq := hq2.out
      rw [rowH_full hXl.out] at hqq
      have HQ := Lib.hid hqq
      have HS : Hid ((Tryd.prog.info? 23).map (·.size) = some (X.map bv).toArray.size) := by rw [List.size_toArray, List.length_map, hXl.out]; exact size_hash
      clear hX hqq
      go_wp2_with (first | (refine wpList_load_row rfl 23 _ rfl (w.heap.size + 2) rfl 23 _ (0, 0) _ HQ.out Tryd.underlying23 rfl HS.out ?_) | (refine wpList_store_row rfl 23 _ _ rfl (w.heap.size + 1) (X.map bv).toArray rfl rfl 23 _ hq1.out HS.out (by rw [rowH_size _ (by simp), List.size_toArray, List.length_map, hXl.out]) (bv_all' _) ?_))
      refine bodyPost_ret (results_cell_row rfl _ _ (w.heap.size + 1) 23 (X.map bv).toArray (0, 0) _ rfl (setRow_heap _ _ _ _ _ _ hq1.out) Tryd.underlying23 rfl HS.out) rfl ?_
      exact ⟨by rw [HX.out], grown_setRow hg (.inr (by omega)) _⟩

/-- How many blocks. -/
def blocksN (n : Nat) : Nat := (n + 8) / 64 + 1
set_option maxHeartbeats 400000 in
theorem Blocks_any (n : Nat) (w : World) (hn : n ≤ 1000000000000) :
    Calls Tryd.prog 50 #[.int .i64 (n : Int)] w fun e w' => e = .returned (.int .i64 (blocksN n : Int)) ∧ w' = w := by
  unfold blocksN
  go_enter Tryd.func50, Tryd.ntmps50
  by_cases h : n % 64 + 1 + 8 > 64
  · go_wp2
    go_ret
    exact ⟨ret_w (by omega), rfl⟩
  · go_wp2
    go_ret
    exact ⟨ret_w (by omega), rfl⟩
theorem Blocks_i (m : Int) (w : World) (h : 0 ≤ m ∧ m ≤ 1000000000000) :
    Calls Tryd.prog 50 #[.int .i64 m] w fun e w' => e = .returned (.int .i64 ((m + 8) / 64 + 1)) ∧ w' = w := by
  obtain ⟨n, rfl⟩ : ∃ n : Nat, m = n := ⟨m.toNat, by omega⟩
  refine (Blocks_any n w (by omega)).mono ?_
  rintro e w' ⟨rfl, rfl⟩
  exact ⟨ret_w (by unfold blocksN; omega), rfl⟩
end Go.Proofs.YtmfnncfiaaeknaaDoor
