/- A block's words: the contract of package sha's spread. -/
import Derived.Test.YtmfnncfiaaeknaaDoorRot
namespace Go.Proofs.YtmfnncfiaaeknaaDoor
open Go.RowKit

theorem words16_len (b : List UInt8) (n : Nat) : (words16 b n).length = n := by
  induction n with
  | zero => rfl
  | succ n ih => simp [words16, ih]
theorem sched_len (b : List UInt8) (n : Nat) : (sched b n).length = 16 + n := by
  induction n with
  | zero => exact words16_len b 16
  | succ n ih => simp [sched, ih]; omega
/-- A row of 64 words of which so many are there. -/
def rowW (l : List UInt32) : Array Value := (l.map wv ++ List.replicate (64 - l.length) (Value.int .u32 0)).toArray
theorem rowW_next (l : List UInt32) (x : UInt32) (h : l.length < 64) : (rowW l).setIfInBounds l.length (wv x) = rowW (l ++ [x]) := by
  unfold rowW
  obtain ⟨k, hk⟩ : ∃ k, 64 - l.length = k + 1 := ⟨64 - l.length - 1, by omega⟩
  have hk' : 64 - (l ++ [x]).length = k := by simp; omega
  rw [hk, hk']
  apply Array.ext'
  simp [List.replicate_succ]
theorem rowW_get (l : List UInt32) (j : Nat) (h : j < l.length) : (rowW l)[j]? = some (wv (l.getD j 0)) := by
  unfold rowW
  rw [List.getElem?_toArray, List.getElem?_append_left (by simpa using h)]
  simp [h]
theorem rowW_zero (l : List UInt32) (j : Nat) (h : l.length ≤ j) (h' : j < 64) : (rowW l)[j]? = some (.int .u32 0) := by
  unfold rowW
  rw [List.getElem?_toArray, List.getElem?_append_right (by simpa using h), List.getElem?_replicate]
  simp; omega

theorem getD_at {α : Type} (b : List α) (i : Nat) (d : α) (h : i < b.length) : b.getD i d = b[i] := by
  rw [List.getD_eq_getElem?_getD, List.getElem?_eq_getElem h]; rfl
theorem wordAt_of {b : List UInt8} {k : Nat} {p0 p1 p2 p3 : UInt8} (h : 4 * k + 3 < b.length) (h0 : p0 = b[4 * k]'(by omega)) (h1 : p1 = b[4 * k + 1]'(by omega)) (h2 : p2 = b[4 * k + 2]'(by omega)) (h3 : p3 = b[4 * k + 3]'(by omega)) :
    wordAt b k = wordOf p0 p1 p2 p3 := by
  unfold wordAt
  rw [getD_at b _ _ (show 4 * k < b.length by omega), getD_at b _ _ (show 4 * k + 1 < b.length by omega), getD_at b _ _ (show 4 * k + 2 < b.length by omega), getD_at b _ _ h, h0, h1, h2, h3]
/-- A word stored where the row ends. -/
theorem rowW_store {w : World} {g n : Nat} {l : List UInt32} {x : UInt32} {t : TypeId} (h : w.heap[g]? = some (.cells (rowW l) t (0, 0))) (hn : l.length = n) (hl : n < 64) :
    (w.setCell ⟨g, n, none⟩ (.int .u32 (x.toNat : Int))).heap[g]? = some (.cells (rowW (l ++ [x])) t (0, 0)) := by
  subst hn
  exact heap_setCell_to h (rowW_next l x hl)

theorem heap_alloc_2 (w : World) (o1 o2 : Obj) : ((w.alloc o1).alloc o2).heap[w.heap.size + 1]? = some o2 := by
  have := heap_alloc_new (w.alloc o1) o2
  rwa [show (w.alloc o1).heap.size = w.heap.size + 1 from by simp] at this
theorem heap_alloc_1 (w : World) (o1 o2 : Obj) : ((w.alloc o1).alloc o2).heap[w.heap.size]? = some o1 :=
  (Below.heap_alloc (w.alloc o1) o2 w.heap.size (by simp)).trans (heap_alloc_new w o1)
theorem size_64 : (Tryd.prog.info? 77).map (·.size) = some 64 := by kernel_rfl
theorem rowW_full {l : List UInt32} (h : l.length = 64) : rowW l = (l.map wv).toArray := by simp [rowW, h]
theorem rowW_size (l : List UInt32) (h : l.length ≤ 64) : (rowW l).size = 64 := by simp [rowW]; omega
theorem wv_all (l : List UInt32) : (l.map wv).toArray.all (·.oneCell') = true := by
  rw [Array.all_eq_true_iff_forall_mem]
  intro v hv
  simp only [List.mem_toArray, List.mem_map] at hv
  obtain ⟨x, _, rfl⟩ := hv
  rfl

set_option maxRecDepth 100000 in
set_option maxHeartbeats 2000000 in
theorem spread_any (A : Option Addr) (b : List UInt8) (c : Nat) (w : World) (hr : RdB w A b) (hl : b.length = 64) (hc : 64 ≤ c) :
    Calls Tryd.prog 54 #[.slice A 64 c] w fun e w' => e = .returned (.agg ((sched b 48).map wv).toArray) ∧ w.grownBy w' none := by
  go_enter Tryd.func54, Tryd.ntmps54
  have hne : b ≠ [] := by rintro rfl; simp at hl
  obtain ⟨ad, rfl, hcell⟩ := hr.get (k := 0) (by omega)
  clear hcell
  go_wp2
  go_loopw [11] (fun i wr => ∃ k : Nat, k ≤ 16 ∧ i = .int .i64 k ∧ Hid (wr.heap[w.heap.size + 1]? = some (.cells (rowW (words16 b k)) 77 (0, 0))) ∧ Hid (wr.heap[w.heap.size]? = some (.cells (rowW []) 77 (0, 0))) ∧ w.grownBy wr none) (fun i _ => 16 - (intOf i).toNat)
  case atStart =>
    refine ⟨0, by omega, rfl, ?_, ?_, grown_alloc (grown_alloc (grown_refl _ _) _) _⟩
    · show _ = _
      exact heap_alloc_2 _ _ _
    · show _ = _
      exact heap_alloc_1 _ _ _
  case round =>
    obtain ⟨k, hk, rfl, hq, hq0, hg⟩ := hrel
    by_cases hlt : k < 16
    · have hr' := hr.kept hg
      obtain ⟨_, e0, hc0⟩ := RdB.get hr' (k := 4 * k) (by omega)
      obtain ⟨_, e1, hc1⟩ := RdB.get hr' (k := 4 * k + 1) (by omega)
      obtain ⟨_, e2, hc2⟩ := RdB.get hr' (k := 4 * k + 2) (by omega)
      obtain ⟨_, e3, hc3⟩ := RdB.get hr' (k := 4 * k + 3) (by omega)
      cases e0; cases e1; cases e2; cases e3
      rw [← add_add, add_pos _ _ (by omega)] at hc1 hc2 hc3
      obtain ⟨p0, hp0⟩ : ∃ p, p = b[4 * k]'(by omega) := ⟨_, rfl⟩
      obtain ⟨p1, hp1⟩ : ∃ p, p = b[4 * k + 1]'(by omega) := ⟨_, rfl⟩
      obtain ⟨p2, hp2⟩ : ∃ p, p = b[4 * k + 2]'(by omega) := ⟨_, rfl⟩
      obtain ⟨p3, hp3⟩ : ∃ p, p = b[4 * k + 3]'(by omega) := ⟨_, rfl⟩
      rw [← hp0] at hc0
      rw [← hp1] at hc1
      rw [← hp2] at hc2
      rw [← hp3] at hc3
      have HP0 := Lib.hid hp0
      have HP1 := Lib.hid hp1
      have HP2 := Lib.hid hp2
      have HP3 := Lib.hid hp3
      clear hp0 hp1 hp2 hp3
      have r0 := wrap_byte
      have r1 := wrap_l24
      have r2 := wrap_l16
      have r3 := wrap_l8
      have r4 := bits_or
      have k64 : (k : Int) < 64 := by omega
      have hlen := words16_len b k
      have hcell : wr.cell? ⟨w.heap.size + 1, k, none⟩ = some (.int .u32 0) := by
        rw [cell_of_row wr _ _ _ _ _ hq.out]; exact rowW_zero _ _ (by omega) (by omega)
      have hfro : wr.frozen? ⟨w.heap.size + 1, k, none⟩ = false := frozen_of_row wr _ _ _ _ hq.out
      clear hlen
      go_wp2
      go_still_tail 24, (by kernel_rfl)
      clear r0 r1 r2 r3 r4
      change wpList _ _ _ _ _ wr.drew
      go_wp2
      go_roundw
      case rel =>
        refine ⟨k + 1, by omega, by go_num, ?_, ?_, grown_set (grown_drew hg) (.inr (by show _ ≤ w.heap.size + 1; omega)) _⟩
        · show _ = _
          have e : words16 b (k + 1) = words16 b k ++ [wordOf p0 p1 p2 p3] := by
            rw [← wordAt_of (by omega) HP0.out HP1.out HP2.out HP3.out]; rfl
          rw [e]
          exact rowW_store (w := wr.drew) hq.out (words16_len b k) (by omega)
        · show _ = _
          exact (Below.heap_setCell wr.drew ⟨w.heap.size + 1, k, none⟩ _ w.heap.size (by simp)).trans hq0.out
      case measure => simp [intOf]; omega
    · have hk16 : k = 16 := by omega
      subst hk16
      clear hlt hk
      rw [show ((16 : Nat) : Int) = 16 from rfl]
      go_wp2
      go_loopw [6] (fun i wr => ∃ m : Nat, 16 ≤ m ∧ m ≤ 64 ∧ i = .int .i64 m ∧ Hid (wr.heap[w.heap.size + 1]? = some (.cells (rowW (sched b (m - 16))) 77 (0, 0))) ∧ Hid (wr.heap[w.heap.size]? = some (.cells (rowW []) 77 (0, 0))) ∧ w.grownBy wr none) (fun i _ => 64 - (intOf i).toNat)
      case atStart => exact ⟨16, by omega, by omega, rfl, hq, hq0, hg⟩
      case round =>
        obtain ⟨m, hm0, hm1, rfl, hq, hq0, hg⟩ := hrel
        by_cases hlt : m < 64
        · have hlen : (sched b (m - 16)).length = m := by rw [sched_len]; omega
          have g1 : ∀ j, j < m → wr.cell? ⟨w.heap.size + 1, j, none⟩ = some (.int .u32 (((sched b (m - 16)).getD j 0).toNat : Int)) := fun j hj => by
            rw [cell_of_row wr _ _ _ _ _ hq.out]; exact rowW_get _ _ (by omega)
          have g15 := g1 (m - 15) (by omega)
          have g2 := g1 (m - 2) (by omega)
          have g16 := g1 (m - 16) (by omega)
          have g7 := g1 (m - 7) (by omega)
          have hcell : wr.cell? ⟨w.heap.size + 1, m, none⟩ = some (.int .u32 0) := by
            rw [cell_of_row wr _ _ _ _ _ hq.out]; exact rowW_zero _ _ (by omega) (by omega)
          have hfro : wr.frozen? ⟨w.heap.size + 1, m, none⟩ = false := frozen_of_row wr _ _ _ _ hq.out
          obtain ⟨x15, e15⟩ : ∃ x, x = (sched b (m - 16)).getD (m - 15) 0 := ⟨_, rfl⟩
          obtain ⟨x2, e2⟩ : ∃ x, x = (sched b (m - 16)).getD (m - 2) 0 := ⟨_, rfl⟩
          obtain ⟨x16, e16⟩ : ∃ x, x = (sched b (m - 16)).getD (m - 16) 0 := ⟨_, rfl⟩
          obtain ⟨x7, e7⟩ : ∃ x, x = (sched b (m - 16)).getD (m - 7) 0 := ⟨_, rfl⟩
          rw [← e15] at g15
          rw [← e2] at g2
          rw [← e16] at g16
          rw [← e7] at g7
          have E15 := Lib.hid e15
          have E2 := Lib.hid e2
          have E16 := Lib.hid e16
          have E7 := Lib.hid e7
          have HL := Lib.hid hlen
          clear e15 e2 e16 e7 hlen g1
          go_wp2
          go_quiet (fail)
          have r0 := bits_xor
          have r1 := fun x => (div_r x).1
          have r2 := fun x => (div_r x).2
          go_wp2_with (go_at_call 56; refine (Rot_m _ _ _ (by omega)).mono ?_; rintro e w' ⟨rfl, rfl⟩)
          clear r0 r1 r2
          obtain ⟨w3, hw3⟩ : ∃ w3, w3 = wr.drewN nq := ⟨_, rfl⟩
          replace g16 : w3.cell? ⟨w.heap.size + 1, m - 16, none⟩ = some (.int .u32 (x16.toNat : Int)) := by rw [hw3]; exact g16
          replace g7 : w3.cell? ⟨w.heap.size + 1, m - 7, none⟩ = some (.int .u32 (x7.toNat : Int)) := by rw [hw3]; exact g7
          replace hcell : w3.cell? ⟨w.heap.size + 1, m, none⟩ = some (.int .u32 0) := by rw [hw3]; exact hcell
          replace hfro : w3.frozen? ⟨w.heap.size + 1, m, none⟩ = false := by rw [hw3]; exact hfro
          replace hq : Hid (w3.heap[w.heap.size + 1]? = some (.cells (rowW (sched b (m - 16))) 77 (0, 0))) := by rw [hw3]; exact hq
          replace hq0 : Hid (w3.heap[w.heap.size]? = some (.cells (rowW []) 77 (0, 0))) := by rw [hw3]; exact hq0
          replace hg : w.grownBy w3 none := by rw [hw3]; exact grown_drewN hg nq
          rw [← hw3]
          clear hw3 g15 g2
          have r0 := wrap_add
          have f16 : IntKind.i64.wrap ((m : Int) - 16) = ((m - 16 : Nat) : Int) := by rw [IntWalk.i64_in _ ⟨by omega, by omega⟩]; omega
          have f7 : IntKind.i64.wrap ((m : Int) - 7) = ((m - 7 : Nat) : Int) := by rw [IntWalk.i64_in _ ⟨by omega, by omega⟩]; omega
          have b16 : ((m - 16 : Nat) : Int) < 64 := by omega
          have b7 : ((m - 7 : Nat) : Int) < 64 := by omega
          have bm : (m : Int) < 64 := by omega
          go_still_tail 15, (by kernel_rfl)
          clear r0 f16 f7
          change wpList _ _ _ _ _ w3.drew
          go_wp2
          go_roundw
          case rel =>
            refine ⟨m + 1, by omega, by omega, by go_num, ?_, ?_, grown_set (grown_drew hg) (.inr (by show _ ≤ w.heap.size + 1; omega)) _⟩
            · show _ = _
              have e : sched b (m + 1 - 16) = sched b (m - 16) ++ [nextW (sched b (m - 16))] := by
                rw [show m + 1 - 16 = (m - 16) + 1 by omega]; rfl
              rw [e]
              have e2 : nextW (sched b (m - 16)) = pW (pW (pW x16 (ssig0 x15)) x7) (ssig1 x2) := by
                unfold nextW
                rw [HL.out, E15.out, E2.out, E16.out, E7.out]
              rw [e2]
              exact rowW_store (w := w3.drew) hq.out HL.out (by omega)
            · show _ = _
              exact (Below.heap_setCell w3.drew ⟨w.heap.size + 1, m, none⟩ _ w.heap.size (by simp)).trans hq0.out
          case measure => simp [intOf]; omega
        · have hm64 : m = 64 := by omega
          subst hm64
          have hlen : (sched b 48).length = 64 := sched_len b 48
          have hqq : wr.heap[w.heap.size + 1]? = some (.cells ((sched b 48).map wv).toArray 77 (0, 0)) := by rw [← rowW_full hlen]; exact hq.out
          obtain ⟨X, hX⟩ : ∃ X, X = sched b 48 := ⟨_, rfl⟩
          rw [← hX] at hqq hlen
          have HX := Lib.hid hX
          have hsz : (Tryd.prog.info? 77).map (·.size) = some (X.map wv).toArray.size := by rw [List.size_toArray, List.length_map, hlen]; exact size_64
          have HS := Lib.hid hsz
          have HQ := Lib.hid hqq
          have HLL := Lib.hid hlen
          clear hX hqq hsz hlen
          go_wp2_with (first | (refine wpList_load_row rfl 77 _ rfl (w.heap.size + 1) rfl 77 _ (0, 0) _ HQ.out Tryd.underlying77 rfl HS.out ?_) | (refine wpList_store_row rfl 77 _ _ rfl w.heap.size (X.map wv).toArray rfl rfl 77 _ hq0.out HS.out (by rw [rowW_size _ (by simp), List.size_toArray, List.length_map, HLL.out]) (wv_all _) ?_))
          refine bodyPost_ret (results_cell_row rfl _ _ w.heap.size 77 (X.map wv).toArray (0, 0) _ rfl (setRow_heap _ _ _ _ _ _ hq0.out) Tryd.underlying77 rfl HS.out) rfl ?_
          exact ⟨by rw [HX.out], grown_setRow hg (.inr (Nat.le_refl _)) _⟩
end Go.Proofs.YtmfnncfiaaeknaaDoor
