/- The document's own block: the contract of affiantref1.block. -/
import Derived.Test.YtmfnncfiaaeknaaDoorEnds
namespace Go.Proofs.YtmfnncfiaaeknaaDoor
open Go.RowKit

theorem i64_nat (n m : Nat) (z : Int) (h : z = (m : Int)) (hm : m ≤ n) (hn : n ≤ 1000000000000) : IntKind.i64.wrap z = (m : Int) := by
  subst h; exact IntWalk.i64_in _ ⟨by omega, by omega⟩
theorem size_8 : (Tryd.prog.info? 67).map (·.size) = some 8 := by kernel_rfl
theorem load_8 (w : World) (g : Nat) (s : St) (t : TypeId) (fr : Nat × Nat) (hg : w.heap[g]? = some (.cells (s.cells.map wv).toArray t fr)) :
    (loadVar 67 ⟨g, 0, none⟩).run Tryd.prog w = .ok (stV s) w :=
  run_loadVar_row (P := Tryd.prog) w g t 67 (s.cells.map wv).toArray fr _ hg Tryd.underlying67 rfl size_8
theorem cell_st {w : World} {g : Nat} {s : St} {t : TypeId} {fr : Nat × Nat} (h : w.heap[g]? = some (.cells (s.cells.map wv).toArray t fr)) (j : Nat) (hj : j < 8) : w.cell? ⟨g, j, none⟩ = some (.int .u32 ((s.cells.getD j 0).toNat : Int)) := by
  rw [cell_of_row w _ _ _ _ _ h]
  exact St.cells_get s j hj
theorem add_get (s r : St) : ∀ k, k < 8 → (s.add r).cells.getD k 0 = pW (s.cells.getD k 0) (r.cells.getD k 0)
  | 0, _ => rfl
  | 1, _ => rfl
  | 2, _ => rfl
  | 3, _ => rfl
  | 4, _ => rfl
  | 5, _ => rfl
  | 6, _ => rfl
  | 7, _ => rfl
  | k + 8, h => absurd h (by omega)
theorem mixed_get (s r : St) : ∀ k, k < 8 → (((s.add r).cells.take k ++ s.cells.drop k).map wv).toArray[k]? = some (.int .u32 ((s.cells.getD k 0).toNat : Int))
  | 0, _ => rfl
  | 1, _ => rfl
  | 2, _ => rfl
  | 3, _ => rfl
  | 4, _ => rfl
  | 5, _ => rfl
  | 6, _ => rfl
  | 7, _ => rfl
  | k + 8, h => absurd h (by omega)
theorem mixed_set (s r : St) {z : UInt32} : ∀ k, k < 8 → z = (s.add r).cells.getD k 0 → (((s.add r).cells.take k ++ s.cells.drop k).map wv).toArray.setIfInBounds k (.int .u32 (z.toNat : Int)) = (((s.add r).cells.take (k + 1) ++ s.cells.drop (k + 1)).map wv).toArray
  | 0, _, h => by subst h; rfl
  | 1, _, h => by subst h; rfl
  | 2, _, h => by subst h; rfl
  | 3, _, h => by subst h; rfl
  | 4, _, h => by subst h; rfl
  | 5, _, h => by subst h; rfl
  | 6, _, h => by subst h; rfl
  | 7, _, h => by subst h; rfl
  | k + 8, h, _ => absurd h (by omega)
theorem keep_of {w w' : World} {g : Nat} {o : Obj} (h : w.heap[g]? = some o) (hg : w.grownBy w' none) : w'.heap[g]? = some o :=
  (hg.block _ (Array.getElem?_eq_some_iff.1 h).1 (by simp)).trans h

set_option maxRecDepth 100000 in
set_option maxHeartbeats 4000000 in
theorem block_any (s : St) (A : Option Addr) (b : List UInt8) (c : Nat) (AK : Option Addr) (cK : Nat) (w : World) (hr : RdB w A b) (hl : b.length = 64) (hK : RdAt w AK (keysL.map wv)) :
    Calls Tryd.prog 46 #[stV s, .slice A 64 c, .slice AK 64 cK] w fun e w' => e = .returned (stV (stir s b)) ∧ w.grownBy w' none := by
  obtain ⟨ad, rfl, hcell⟩ := hr.get (k := 0) (by omega)
  clear hcell
  have hkl : (keysL.map wv).length = 64 := rfl
  obtain ⟨ak, rfl, hcell⟩ := hK.get (k := 0) (by rw [hkl]; omega)
  clear hcell hkl
  unfold stV
  go_enter Tryd.func46, Tryd.ntmps46
  go_wp2
  go_loopw [20] (fun i wr => ∃ k : Nat, k ≤ 16 ∧ i = .int .i64 k ∧ Hid (wr.heap[w.heap.size]? = some (.cells (s.cells.map wv).toArray 67 (0, 0))) ∧ Hid (wr.heap[w.heap.size + 1]? = some (.cells #[.int .u32 0, .int .u32 0, .int .u32 0, .int .u32 0, .int .u32 0, .int .u32 0, .int .u32 0, .int .u32 0] 67 (0, 0))) ∧ Hid (wr.heap[w.heap.size + 2]? = some (.cells (rowW (words16 b k)) 77 (0, 0))) ∧ w.grownBy wr none) (fun i _ => 16 - (intOf i).toNat)
  case atStart => exact ⟨0, by omega, rfl, (heap_alloc_3 _ _ _ _).1, (heap_alloc_3 _ _ _ _).2.1, (heap_alloc_3 _ _ _ _).2.2, grown_alloc (grown_alloc (grown_alloc (grown_refl _ _) _) _) _⟩
  case round =>
    obtain ⟨k, hk, rfl, hqh, hqr, hqw, hg⟩ := hrel
    by_cases hlt : k < 16
    · have hr' := hr.kept hg
      obtain ⟨q, hq⟩ : ∃ q, q = 4 * k := ⟨_, rfl⟩
      obtain ⟨q1, hq1⟩ : ∃ q1, q1 = 4 * k + 1 := ⟨_, rfl⟩
      obtain ⟨q2, hq2⟩ : ∃ q2, q2 = 4 * k + 2 := ⟨_, rfl⟩
      obtain ⟨q3, hq3⟩ : ∃ q3, q3 = 4 * k + 3 := ⟨_, rfl⟩
      obtain ⟨_, e0, hc0⟩ := RdB.get hr' (k := q) (by omega)
      obtain ⟨_, e1, hc1⟩ := RdB.get hr' (k := q1) (by omega)
      obtain ⟨_, e2, hc2⟩ := RdB.get hr' (k := q2) (by omega)
      obtain ⟨_, e3, hc3⟩ := RdB.get hr' (k := q3) (by omega)
      cases e0; cases e1; cases e2; cases e3
      obtain ⟨p0, hp0⟩ : ∃ p, p = b[q]'(by omega) := ⟨_, rfl⟩
      obtain ⟨p1, hp1⟩ : ∃ p, p = b[q1]'(by omega) := ⟨_, rfl⟩
      obtain ⟨p2, hp2⟩ : ∃ p, p = b[q2]'(by omega) := ⟨_, rfl⟩
      obtain ⟨p3, hp3⟩ : ∃ p, p = b[q3]'(by omega) := ⟨_, rfl⟩
      rw [← hp0] at hc0
      rw [← hp1] at hc1
      rw [← hp2] at hc2
      rw [← hp3] at hc3
      have HW : Hid (wordAt b k = wordOf p0 p1 p2 p3) := by
        show _ = _
        subst hq hq1 hq2 hq3
        exact wordAt_of (by omega) hp0 hp1 hp2 hp3
      have x0 : IntKind.i64.wrap (4 * (k : Int)) = (q : Int) := by rw [IntWalk.i64_in _ ⟨by omega, by omega⟩]; omega
      have x1 : IntKind.i64.wrap ((q : Int) + 1) = (q1 : Int) := by rw [IntWalk.i64_in _ ⟨by omega, by omega⟩]; omega
      have x2 : IntKind.i64.wrap ((q : Int) + 2) = (q2 : Int) := by rw [IntWalk.i64_in _ ⟨by omega, by omega⟩]; omega
      have x3 : IntKind.i64.wrap ((q : Int) + 3) = (q3 : Int) := by rw [IntWalk.i64_in _ ⟨by omega, by omega⟩]; omega
      have y0 : (q : Int) < 64 := by omega
      have y1 : (q1 : Int) < 64 := by omega
      have y2 : (q2 : Int) < 64 := by omega
      have y3 : (q3 : Int) < 64 := by omega
      clear hp0 hp1 hp2 hp3 hq hq1 hq2 hq3
      have r0 := wrap_byte
      have r1 := wrap_l24
      have r2 := wrap_l16
      have r3 := wrap_l8
      have r4 := bits_or
      have k64 : (k : Int) < 64 := by omega
      have hlen := words16_len b k
      have hcell : wr.cell? ⟨w.heap.size + 2, k, none⟩ = some (.int .u32 0) := by
        rw [cell_of_row wr _ _ _ _ _ hqw.out]; exact rowW_zero _ _ (by omega) (by omega)
      have hfro : wr.frozen? ⟨w.heap.size + 2, k, none⟩ = false := frozen_of_row wr _ _ _ _ hqw.out
      clear hlen
      go_wp2
      go_still_tail 35, (by kernel_rfl)
      clear r0 r1 r2 r3 r4 x0 x1 x2 x3
      change wpList _ _ _ _ _ wr.drew
      go_wp2
      go_roundw
      case rel =>
        have e : words16 b (k + 1) = words16 b k ++ [wordOf p0 p1 p2 p3] := by rw [← HW.out]; rfl
        refine ⟨k + 1, by omega, by go_num, ?_, ?_, ?_, grown_set (grown_drew hg) (.inr (by show _ ≤ w.heap.size + 2; omega)) _⟩
        · show _ = _
          exact (Below.heap_setCell wr.drew ⟨w.heap.size + 2, k, none⟩ _ w.heap.size (by simp)).trans hqh.out
        · show _ = _
          exact (Below.heap_setCell wr.drew ⟨w.heap.size + 2, k, none⟩ _ (w.heap.size + 1) (by simp)).trans hqr.out
        · show _ = _
          rw [e]
          exact rowW_store (w := wr.drew) hqw.out (words16_len b k) (by omega)
      case measure => simp [intOf]; omega
    · have hk16 : k = 16 := by omega
      subst hk16
      clear hlt hk
      rw [show ((16 : Nat) : Int) = 16 from rfl]
      go_wp2
      go_loopw [9] (fun i wr => ∃ m : Nat, 16 ≤ m ∧ m ≤ 64 ∧ i = .int .i64 m ∧ Hid (wr.heap[w.heap.size]? = some (.cells (s.cells.map wv).toArray 67 (0, 0))) ∧ Hid (wr.heap[w.heap.size + 1]? = some (.cells #[.int .u32 0, .int .u32 0, .int .u32 0, .int .u32 0, .int .u32 0, .int .u32 0, .int .u32 0, .int .u32 0] 67 (0, 0))) ∧ Hid (wr.heap[w.heap.size + 2]? = some (.cells (rowW (sched b (m - 16))) 77 (0, 0))) ∧ w.grownBy wr none) (fun i _ => 64 - (intOf i).toNat)
      case atStart => exact ⟨16, by omega, by omega, rfl, hqh, hqr, hqw, hg⟩
      case round =>
        clear hqh hqr hqw hg
        obtain ⟨m, hm0, hm1, rfl, hqh, hqr, hqw, hg⟩ := hrel
        by_cases hlt : m < 64
        · have hlen : (sched b (m - 16)).length = m := by rw [sched_len]; omega
          have g1 : ∀ j, j < m → wr.cell? ⟨w.heap.size + 2, j, none⟩ = some (.int .u32 (((sched b (m - 16)).getD j 0).toNat : Int)) := fun j hj => by
            rw [cell_of_row wr _ _ _ _ _ hqw.out]; exact rowW_get _ _ (by omega)
          have g15 := g1 (m - 15) (by omega)
          have g2 := g1 (m - 2) (by omega)
          have hcell : wr.cell? ⟨w.heap.size + 2, m, none⟩ = some (.int .u32 0) := by
            rw [cell_of_row wr _ _ _ _ _ hqw.out]; exact rowW_zero _ _ (by omega) (by omega)
          have hfro : wr.frozen? ⟨w.heap.size + 2, m, none⟩ = false := frozen_of_row wr _ _ _ _ hqw.out
          obtain ⟨m16, hm16⟩ : ∃ j, j = m - 16 := ⟨_, rfl⟩
          obtain ⟨m7, hm7⟩ : ∃ j, j = m - 7 := ⟨_, rfl⟩
          have g16 := g1 m16 (by omega)
          have g7 := g1 m7 (by omega)
          obtain ⟨x15, e15⟩ : ∃ x, x = (sched b (m - 16)).getD (m - 15) 0 := ⟨_, rfl⟩
          obtain ⟨x2, e2⟩ : ∃ x, x = (sched b (m - 16)).getD (m - 2) 0 := ⟨_, rfl⟩
          obtain ⟨x16, e16⟩ : ∃ x, x = (sched b (m - 16)).getD m16 0 := ⟨_, rfl⟩
          obtain ⟨x7, e7⟩ : ∃ x, x = (sched b (m - 16)).getD m7 0 := ⟨_, rfl⟩
          rw [← e15] at g15
          rw [← e2] at g2
          rw [← e16] at g16
          rw [← e7] at g7
          have HN : Hid (nextW (sched b (m - 16)) = pW (pW (pW x16 (ssig0 x15)) x7) (ssig1 x2)) := by
            show _ = _
            unfold nextW
            rw [hlen, e15, e2, e16, e7, hm16, hm7]
          have HL := Lib.hid hlen
          have f16 : IntKind.i64.wrap ((m : Int) - 16) = (m16 : Int) := by rw [IntWalk.i64_in _ ⟨by omega, by omega⟩]; omega
          have f7 : IntKind.i64.wrap ((m : Int) - 7) = (m7 : Int) := by rw [IntWalk.i64_in _ ⟨by omega, by omega⟩]; omega
          have b16 : (m16 : Int) < 64 := by omega
          have b7 : (m7 : Int) < 64 := by omega
          have bm : (m : Int) < 64 := by omega
          clear e15 e2 e16 e7 hlen g1 hm16 hm7
          have F16 := Lib.hid f16
          have F7 := Lib.hid f7
          clear f16 f7
          go_wp2
          go_quiet (fail)
          go_wp2
          obtain ⟨w3, hw3⟩ : ∃ w3, w3 = (wr.drewN nq).drew := ⟨_, rfl⟩
          replace g16 : w3.cell? ⟨w.heap.size + 2, m16, none⟩ = some (.int .u32 (x16.toNat : Int)) := by rw [hw3]; exact g16
          replace g7 : w3.cell? ⟨w.heap.size + 2, m7, none⟩ = some (.int .u32 (x7.toNat : Int)) := by rw [hw3]; exact g7
          replace hcell : w3.cell? ⟨w.heap.size + 2, m, none⟩ = some (.int .u32 0) := by rw [hw3]; exact hcell
          replace hfro : w3.frozen? ⟨w.heap.size + 2, m, none⟩ = false := by rw [hw3]; exact hfro
          replace hqh : Hid (w3.heap[w.heap.size]? = some (.cells (s.cells.map wv).toArray 67 (0, 0))) := by rw [hw3]; exact hqh
          replace hqr : Hid (w3.heap[w.heap.size + 1]? = some (.cells #[.int .u32 0, .int .u32 0, .int .u32 0, .int .u32 0, .int .u32 0, .int .u32 0, .int .u32 0, .int .u32 0] 67 (0, 0))) := by rw [hw3]; exact hqr
          replace hqw : Hid (w3.heap[w.heap.size + 2]? = some (.cells (rowW (sched b (m - 16))) 77 (0, 0))) := by rw [hw3]; exact hqw
          replace hg : w.grownBy w3 none := by rw [hw3]; exact grown_drew (grown_drewN hg nq)
          refine wp_region_still_tail 29 (by kernel_rfl) (by kernel_rfl) ?_
          change wpStill _ _ (wr.drewN nq).drew (fun a' => wpList _ _ _ _ a' (wr.drewN nq).drew) _ _
          rw [← hw3]
          clear hw3 g15 g2
          have r0 := wrap_add
          have r1 := bits_xor
          have r2 := fun x => (div_r x).1
          have r3 := fun x => (div_r x).2
          have f16 := F16.out
          have f7 := F7.out
          simp only [List.take_succ_cons, List.take_zero, List.drop_succ_cons, List.drop_zero]
          repeat (first | still_step | still_call (turn_m _ _ _ (by omega)))
          try refine wpStill_nil ?_
          clear r0 r1 r2 r3 f16 f7
          go_wp2
          go_roundw
          case rel =>
            have e : sched b (m + 1 - 16) = sched b (m - 16) ++ [pW (pW (pW x16 (ssig0 x15)) x7) (ssig1 x2)] := by
              rw [show m + 1 - 16 = (m - 16) + 1 by omega, ← HN.out]; rfl
            refine ⟨m + 1, by omega, by omega, by go_num, ?_, ?_, ?_, grown_set hg (.inr (by show _ ≤ w.heap.size + 2; omega)) _⟩
            · show _ = _
              exact (Below.heap_setCell w3 ⟨w.heap.size + 2, m, none⟩ _ w.heap.size (by simp)).trans hqh.out
            · show _ = _
              exact (Below.heap_setCell w3 ⟨w.heap.size + 2, m, none⟩ _ (w.heap.size + 1) (by simp)).trans hqr.out
            · show _ = _
              rw [e]
              exact rowW_store hqw.out HL.out (by omega)
          case measure => simp [intOf]; omega
        · have hm64 : m = 64 := by omega
          subst hm64
          clear hlt hm0 hm1
          rw [show ((64 : Nat) : Int) = 64 from rfl]
          have hXl0 : (sched b 48).length = 64 := sched_len b 48
          replace hqw : Hid (wr.heap[w.heap.size + 2]? = some (.cells (rowW (sched b 48)) 77 (0, 0))) := hqw
          obtain ⟨X, hX⟩ : ∃ X, X = sched b 48 := ⟨_, rfl⟩
          rw [← hX] at hXl0 hqw
          have HX := Lib.hid hX
          have hXl := Lib.hid hXl0
          clear hXl0 hX
          go_wp2_with (first
            | (refine wpList_load_row rfl 67 _ rfl w.heap.size rfl 67 (s.cells.map wv).toArray (0, 0) _ hqh.out Tryd.underlying67 rfl size_8 ?_)
            | (refine wpList_store_row rfl 67 _ _ rfl wr.heap.size (s.cells.map wv).toArray rfl rfl 67 _ (heap_alloc_new _ _) size_8 rfl (wv_all _) ?_; generalize hw4 : World.setRow _ _ _ = w4; have HW4 := Lib.hid hw4; clear hw4))
          have hgv : Hid (w.heap.size + 3 ≤ wr.heap.size) := (Array.getElem?_eq_some_iff.1 hqw.out).1
          have hg4 : w.grownBy w4 none := by
            rw [← HW4.out]
            exact grown_setRow (grown_alloc hg _) (.inr (by have := hgv.out; omega)) _
          have hold : ∀ j, j < wr.heap.size → w4.heap[j]? = wr.heap[j]? := fun j hj => by
            rw [← HW4.out, setRow_other _ _ _ _ (by omega)]
            exact Below.heap_alloc _ _ _ hj
          have hqh4 : Hid (w4.heap[w.heap.size]? = some (.cells (s.cells.map wv).toArray 67 (0, 0))) := by
            show _ = _
            rw [hold _ (by have := hgv.out; omega)]; exact hqh.out
          have hqr4 : Hid (w4.heap[w.heap.size + 1]? = some (.cells #[.int .u32 0, .int .u32 0, .int .u32 0, .int .u32 0, .int .u32 0, .int .u32 0, .int .u32 0, .int .u32 0] 67 (0, 0))) := by
            show _ = _
            rw [hold _ (by have := hgv.out; omega)]; exact hqr.out
          have hqx4 : Hid (w4.heap[w.heap.size + 2]? = some (.cells (rowW X) 77 (0, 0))) := by
            show _ = _
            rw [hold _ (by have := hgv.out; omega)]; exact hqw.out
          have hqv4 : Hid (w4.heap[wr.heap.size]? = some (.cells ((rounds X s 0).cells.map wv).toArray 67 (0, 0))) := by
            show _ = _
            rw [← HW4.out]
            exact setRow_heap _ _ _ _ _ _ (heap_alloc_new _ _)
          clear hold HW4 hqh hqr hqw hg
          generalize hge : wr.heap.size = gv at hgv hqv4 ⊢
          clear hge
          go_loopw [101] (fun i wz => ∃ k : Nat, k ≤ 64 ∧ i = .int .i64 k ∧ Hid (wz.heap[w.heap.size]? = some (.cells (s.cells.map wv).toArray 67 (0, 0))) ∧ Hid (wz.heap[w.heap.size + 1]? = some (.cells #[.int .u32 0, .int .u32 0, .int .u32 0, .int .u32 0, .int .u32 0, .int .u32 0, .int .u32 0, .int .u32 0] 67 (0, 0))) ∧ Hid (wz.heap[w.heap.size + 2]? = some (.cells (rowW X) 77 (0, 0))) ∧ Hid (wz.heap[gv]? = some (.cells ((rounds X s k).cells.map wv).toArray 67 (0, 0))) ∧ w.grownBy wz none) (fun i _ => 64 - (intOf i).toNat)
          case atStart => exact ⟨0, by omega, rfl, hqh4, hqr4, hqx4, hqv4, hg4⟩
          case round =>
            clear hqh4 hqr4 hqx4 hqv4 hg4
            obtain ⟨k, hk64, rfl, hqh, hqr, hqx, hqv, hg⟩ := hrel
            by_cases hlt : k < 64
            · have ck : wr.cell? (ak.add k) = some (.int .u32 ((keysL.getD k 0).toNat : Int)) := by
                obtain ⟨_, e, hc⟩ := RdAt.get (hK.kept hg) (k := k) (show k < (keysL.map wv).length from hlt)
                cases e
                rw [hc, getD_at keysL k 0 hlt, List.getElem_map]
                rfl
              have cw : wr.cell? ⟨w.heap.size + 2, k, none⟩ = some (.int .u32 ((X.getD k 0).toNat : Int)) := by
                rw [cell_of_row wr _ _ _ _ _ hqx.out]; exact rowW_get _ _ (by rw [hXl.out]; exact hlt)
              obtain ⟨K, hK'⟩ : ∃ K, K = keysL.getD k 0 := ⟨_, rfl⟩
              obtain ⟨Y, hY⟩ : ∃ Y, Y = X.getD k 0 := ⟨_, rfl⟩
              obtain ⟨r, hr'⟩ : ∃ r, r = rounds X s k := ⟨_, rfl⟩
              rw [← hK'] at ck
              rw [← hY] at cw
              rw [← hr'] at hqv
              have HK := Lib.hid hK'
              have HY := Lib.hid hY
              have HR := Lib.hid hr'
              clear hK' hY hr'
              have v0 : wr.cell? ⟨gv, 0, none⟩ = some (.int .u32 (r.a.toNat : Int)) := cell_st hqv.out 0 (by omega)
              have v1 : wr.cell? ⟨gv, 1, none⟩ = some (.int .u32 (r.b.toNat : Int)) := cell_st hqv.out 1 (by omega)
              have v2 : wr.cell? ⟨gv, 2, none⟩ = some (.int .u32 (r.c.toNat : Int)) := cell_st hqv.out 2 (by omega)
              have v3 : wr.cell? ⟨gv, 3, none⟩ = some (.int .u32 (r.d.toNat : Int)) := cell_st hqv.out 3 (by omega)
              have v4 : wr.cell? ⟨gv, 4, none⟩ = some (.int .u32 (r.e.toNat : Int)) := cell_st hqv.out 4 (by omega)
              have v5 : wr.cell? ⟨gv, 5, none⟩ = some (.int .u32 (r.f.toNat : Int)) := cell_st hqv.out 5 (by omega)
              have v6 : wr.cell? ⟨gv, 6, none⟩ = some (.int .u32 (r.g.toNat : Int)) := cell_st hqv.out 6 (by omega)
              have v7 : wr.cell? ⟨gv, 7, none⟩ = some (.int .u32 (r.h.toNat : Int)) := cell_st hqv.out 7 (by omega)
              have k64 : (k : Int) < 64 := by omega
              have r0 := bits_xor
              have r1 := bits_and
              have r2 := wrap_add
              have r3 := add_w
              have r4 := bits_not
              go_wp2
              go_quiet (first | (go_at_call 53; refine Calls.quiet_of_same (turn_m _ _ _ (by omega))))
              obtain ⟨w5, hw5⟩ : ∃ w5, w5 = wr.drewN nq := ⟨_, rfl⟩
              replace v0 : w5.cell? ⟨gv, 0, none⟩ = some (.int .u32 (r.a.toNat : Int)) := by rw [hw5]; exact v0
              replace v1 : w5.cell? ⟨gv, 1, none⟩ = some (.int .u32 (r.b.toNat : Int)) := by rw [hw5]; exact v1
              replace v2 : w5.cell? ⟨gv, 2, none⟩ = some (.int .u32 (r.c.toNat : Int)) := by rw [hw5]; exact v2
              replace v3 : w5.cell? ⟨gv, 3, none⟩ = some (.int .u32 (r.d.toNat : Int)) := by rw [hw5]; exact v3
              replace v4 : w5.cell? ⟨gv, 4, none⟩ = some (.int .u32 (r.e.toNat : Int)) := by rw [hw5]; exact v4
              replace v5 : w5.cell? ⟨gv, 5, none⟩ = some (.int .u32 (r.f.toNat : Int)) := by rw [hw5]; exact v5
              replace v6 : w5.cell? ⟨gv, 6, none⟩ = some (.int .u32 (r.g.toNat : Int)) := by rw [hw5]; exact v6
              replace v7 : w5.cell? ⟨gv, 7, none⟩ = some (.int .u32 (r.h.toNat : Int)) := by rw [hw5]; exact v7
              replace ck : w5.cell? (ak.add k) = some (.int .u32 (K.toNat : Int)) := by rw [hw5]; exact ck
              replace cw : w5.cell? ⟨w.heap.size + 2, k, none⟩ = some (.int .u32 (Y.toNat : Int)) := by rw [hw5]; exact cw
              replace hqh : Hid (w5.heap[w.heap.size]? = some (.cells (s.cells.map wv).toArray 67 (0, 0))) := by rw [hw5]; exact hqh
              replace hqr : Hid (w5.heap[w.heap.size + 1]? = some (.cells #[.int .u32 0, .int .u32 0, .int .u32 0, .int .u32 0, .int .u32 0, .int .u32 0, .int .u32 0, .int .u32 0] 67 (0, 0))) := by rw [hw5]; exact hqr
              replace hqx : Hid (w5.heap[w.heap.size + 2]? = some (.cells (rowW X) 77 (0, 0))) := by rw [hw5]; exact hqx
              replace hqv : Hid (w5.heap[gv]? = some (.cells (r.cells.map wv).toArray 67 (0, 0))) := by rw [hw5]; exact hqv
              replace hg : w.grownBy w5 none := by rw [hw5]; exact grown_drewN hg _
              rw [← hw5]
              clear hw5
              go_wp2
              go_quiet (fail)
              obtain ⟨w6, hw6⟩ : ∃ w6, w6 = w5.drewN nq := ⟨_, rfl⟩
              replace v0 : w6.cell? ⟨gv, 0, none⟩ = some (.int .u32 (r.a.toNat : Int)) := by rw [hw6]; exact v0
              replace v1 : w6.cell? ⟨gv, 1, none⟩ = some (.int .u32 (r.b.toNat : Int)) := by rw [hw6]; exact v1
              replace v2 : w6.cell? ⟨gv, 2, none⟩ = some (.int .u32 (r.c.toNat : Int)) := by rw [hw6]; exact v2
              replace v3 : w6.cell? ⟨gv, 3, none⟩ = some (.int .u32 (r.d.toNat : Int)) := by rw [hw6]; exact v3
              replace v4 : w6.cell? ⟨gv, 4, none⟩ = some (.int .u32 (r.e.toNat : Int)) := by rw [hw6]; exact v4
              replace v5 : w6.cell? ⟨gv, 5, none⟩ = some (.int .u32 (r.f.toNat : Int)) := by rw [hw6]; exact v5
              replace v6 : w6.cell? ⟨gv, 6, none⟩ = some (.int .u32 (r.g.toNat : Int)) := by rw [hw6]; exact v6
              replace v7 : w6.cell? ⟨gv, 7, none⟩ = some (.int .u32 (r.h.toNat : Int)) := by rw [hw6]; exact v7
              clear ck
              clear cw
              replace hqh : Hid (w6.heap[w.heap.size]? = some (.cells (s.cells.map wv).toArray 67 (0, 0))) := by rw [hw6]; exact hqh
              replace hqr : Hid (w6.heap[w.heap.size + 1]? = some (.cells #[.int .u32 0, .int .u32 0, .int .u32 0, .int .u32 0, .int .u32 0, .int .u32 0, .int .u32 0, .int .u32 0] 67 (0, 0))) := by rw [hw6]; exact hqr
              replace hqx : Hid (w6.heap[w.heap.size + 2]? = some (.cells (rowW X) 77 (0, 0))) := by rw [hw6]; exact hqx
              replace hqv : Hid (w6.heap[gv]? = some (.cells (r.cells.map wv).toArray 67 (0, 0))) := by rw [hw6]; exact hqv
              replace hg : w.grownBy w6 none := by rw [hw6]; exact grown_drewN hg _
              rw [← hw6]
              clear hw6
              obtain ⟨T, hT⟩ : ∃ T, T = tOf K Y r := ⟨_, rfl⟩
              have hTe : pW (pW (pW (pW r.h (xW (xW (rotr r.e 6) (rotr r.e 11)) (rotr r.e 25))) (xW (aW r.e r.f) (aW (nW r.e) r.g))) K) Y = T := by rw [hT]; rfl
              rw [hTe]
              have HT := Lib.hid hT
              clear hT hTe
              go_wp2
              go_quiet (first | (go_at_call 53; refine Calls.quiet_of_same (turn_m _ _ _ (by omega))))
              obtain ⟨w7, hw7⟩ : ∃ w7, w7 = w6.drewN nq := ⟨_, rfl⟩
              replace v0 : w7.cell? ⟨gv, 0, none⟩ = some (.int .u32 (r.a.toNat : Int)) := by rw [hw7]; exact v0
              replace v1 : w7.cell? ⟨gv, 1, none⟩ = some (.int .u32 (r.b.toNat : Int)) := by rw [hw7]; exact v1
              replace v2 : w7.cell? ⟨gv, 2, none⟩ = some (.int .u32 (r.c.toNat : Int)) := by rw [hw7]; exact v2
              replace v3 : w7.cell? ⟨gv, 3, none⟩ = some (.int .u32 (r.d.toNat : Int)) := by rw [hw7]; exact v3
              replace v4 : w7.cell? ⟨gv, 4, none⟩ = some (.int .u32 (r.e.toNat : Int)) := by rw [hw7]; exact v4
              replace v5 : w7.cell? ⟨gv, 5, none⟩ = some (.int .u32 (r.f.toNat : Int)) := by rw [hw7]; exact v5
              replace v6 : w7.cell? ⟨gv, 6, none⟩ = some (.int .u32 (r.g.toNat : Int)) := by rw [hw7]; exact v6
              replace v7 : w7.cell? ⟨gv, 7, none⟩ = some (.int .u32 (r.h.toNat : Int)) := by rw [hw7]; exact v7
              replace hqh : Hid (w7.heap[w.heap.size]? = some (.cells (s.cells.map wv).toArray 67 (0, 0))) := by rw [hw7]; exact hqh
              replace hqr : Hid (w7.heap[w.heap.size + 1]? = some (.cells #[.int .u32 0, .int .u32 0, .int .u32 0, .int .u32 0, .int .u32 0, .int .u32 0, .int .u32 0, .int .u32 0] 67 (0, 0))) := by rw [hw7]; exact hqr
              replace hqx : Hid (w7.heap[w.heap.size + 2]? = some (.cells (rowW X) 77 (0, 0))) := by rw [hw7]; exact hqx
              replace hqv : Hid (w7.heap[gv]? = some (.cells (r.cells.map wv).toArray 67 (0, 0))) := by rw [hw7]; exact hqv
              replace hg : w.grownBy w7 none := by rw [hw7]; exact grown_drewN hg _
              rw [← hw7]
              clear hw7
              go_wp2_with (first
                | (refine wpList_store_row rfl 67 _ _ rfl gv (([pW (pW T (xW (xW (rotr r.a 2) (rotr r.a 13)) (rotr r.a 22))) (xW (xW (aW r.a r.b) (aW r.a r.c)) (aW r.b r.c)), r.a, r.b, r.c, pW r.d T, r.e, r.f, r.g] : List UInt32).map wv).toArray rfl rfl 67 (r.cells.map wv).toArray hqv.out size_8 rfl (wv_all [pW (pW T (xW (xW (rotr r.a 2) (rotr r.a 13)) (rotr r.a 22))) (xW (xW (aW r.a r.b) (aW r.a r.c)) (aW r.b r.c)), r.a, r.b, r.c, pW r.d T, r.e, r.f, r.g]) ?_; generalize hw8 : World.setRow _ _ _ = w8; have HW8 := Lib.hid hw8; clear hw8))
              go_roundw
              case rel =>
                have e : rounds X s (k + 1) = round K Y r := by rw [rounds, ← HK.out, ← HY.out, ← HR.out]
                have e2 : (([pW (pW T (xW (xW (rotr r.a 2) (rotr r.a 13)) (rotr r.a 22))) (xW (xW (aW r.a r.b) (aW r.a r.c)) (aW r.b r.c)), r.a, r.b, r.c, pW r.d T, r.e, r.f, r.g] : List UInt32)) = (round K Y r).cells := by
                  rw [HT.out]
                  unfold round St.cells uOf majOf rot3 pW
                  simp only [UInt32.add_assoc]
                refine ⟨k + 1, by omega, by go_num, ?_, ?_, ?_, ?_, ?_⟩
                · show _ = _
                  rw [← HW8.out, setRow_other _ _ _ _ (by have := hgv.out; omega)]; exact hqh.out
                · show _ = _
                  rw [← HW8.out, setRow_other _ _ _ _ (by have := hgv.out; omega)]; exact hqr.out
                · show _ = _
                  rw [← HW8.out, setRow_other _ _ _ _ (by have := hgv.out; omega)]; exact hqx.out
                · show _ = _
                  rw [← HW8.out, e, ← e2]
                  exact setRow_heap _ _ _ _ _ _ hqv.out
                · rw [← HW8.out]
                  exact grown_setRow hg (.inr (by have := hgv.out; omega)) _
              case measure => simp [intOf]; omega
            · have hk64' : k = 64 := by omega
              subst hk64'
              clear hlt hk64
              rw [show ((64 : Nat) : Int) = 64 from rfl]
              obtain ⟨r, hr'⟩ : ∃ r, r = rounds X s 64 := ⟨_, rfl⟩
              rw [← hr'] at hqv
              have HR := Lib.hid hr'
              clear hr'
              go_wp2
              go_loopw [193] (fun i wz => ∃ k : Nat, k ≤ 8 ∧ i = .int .i64 k ∧ Hid (wz.heap[w.heap.size]? = some (.cells (((s.add r).cells.take k ++ s.cells.drop k).map wv).toArray 67 (0, 0))) ∧ Hid (wz.heap[w.heap.size + 1]? = some (.cells #[.int .u32 0, .int .u32 0, .int .u32 0, .int .u32 0, .int .u32 0, .int .u32 0, .int .u32 0, .int .u32 0] 67 (0, 0))) ∧ Hid (wz.heap[gv]? = some (.cells (r.cells.map wv).toArray 67 (0, 0))) ∧ w.grownBy wz none) (fun i _ => 8 - (intOf i).toNat)
              case atStart => exact ⟨0, by omega, rfl, hqh, hqr, hqv, hg⟩
              case round =>
                clear hqh hqr hqx hqv hg
                obtain ⟨k, hk8, rfl, hqh, hqr, hqv, hg⟩ := hrel
                by_cases hlt : k < 8
                · have hc1 : wr.cell? ⟨w.heap.size, k, none⟩ = some (.int .u32 ((s.cells.getD k 0).toNat : Int)) := by
                    rw [cell_of_row wr _ _ _ _ _ hqh.out]; exact mixed_get s r k hlt
                  have hc2 : wr.cell? ⟨gv, k, none⟩ = some (.int .u32 ((r.cells.getD k 0).toNat : Int)) := cell_st hqv.out k hlt
                  have hf : wr.frozen? ⟨w.heap.size, k, none⟩ = false := frozen_of_row wr _ _ _ _ hqh.out
                  obtain ⟨x, hx⟩ : ∃ x, x = s.cells.getD k 0 := ⟨_, rfl⟩
                  obtain ⟨y, hy⟩ : ∃ y, y = r.cells.getD k 0 := ⟨_, rfl⟩
                  rw [← hx] at hc1
                  rw [← hy] at hc2
                  have hxy : Hid (pW x y = (s.add r).cells.getD k 0) := by show _ = _; rw [hx, hy]; exact (add_get s r k hlt).symm
                  clear hx hy
                  have k8 : (k : Int) < 8 := by omega
                  have r2 := wrap_add
                  go_wp2
                  go_still_tail 9, (by kernel_rfl)
                  clear r2
                  change wpList _ _ _ _ _ wr.drew
                  go_wp2
                  go_roundw
                  case rel =>
                    refine ⟨k + 1, by omega, by go_num, ?_, ?_, ?_, grown_set (grown_drew hg) (.inr (Nat.le_refl _)) _⟩
                    · show _ = _
                      refine heap_setCell_to (w := wr.drew) hqh.out ?_
                      exact mixed_set s r k hlt hxy.out
                    · show _ = _
                      exact (Below.heap_setCell wr.drew ⟨w.heap.size, k, none⟩ _ (w.heap.size + 1) (by simp)).trans hqr.out
                    · show _ = _
                      exact (Below.heap_setCell wr.drew ⟨w.heap.size, k, none⟩ _ gv (by have := hgv.out; show gv ≠ w.heap.size; omega)).trans hqv.out
                  case measure => simp [intOf]; omega
                · have hk8' : k = 8 := by omega
                  subst hk8'
                  replace hqh : Hid (wr.heap[w.heap.size]? = some (.cells ((s.add r).cells.map wv).toArray 67 (0, 0))) := hqh
                  have hres : Hid (s.add r = stir s b) := by show _ = _; rw [HR.out, HX.out]; rfl
                  obtain ⟨Z, hZ⟩ : ∃ Z, Z = s.add r := ⟨_, rfl⟩
                  rw [← hZ] at hqh hres
                  clear hZ
                  go_wp2_with (first
                    | (refine wpList_load_row rfl 67 _ rfl w.heap.size rfl 67 (Z.cells.map wv).toArray (0, 0) _ hqh.out Tryd.underlying67 rfl size_8 ?_)
                    | (refine wpList_store_row rfl 67 _ _ rfl (w.heap.size + 1) (Z.cells.map wv).toArray rfl rfl 67 _ hqr.out size_8 rfl (wv_all _) ?_))
                  refine bodyPost_ret (results_cell_row rfl _ _ (w.heap.size + 1) 67 (Z.cells.map wv).toArray (0, 0) _ rfl (setRow_heap _ _ _ _ _ _ hqr.out) Tryd.underlying67 rfl size_8) rfl ?_
                  exact ⟨by rw [← hres.out]; rfl, grown_setRow hg (.inr (by omega)) _⟩
end Go.Proofs.YtmfnncfiaaeknaaDoor
