/- The document's own block: the contract of affiantref1.block. The document's own SHA-256: the contract of affiantref1.Sum. Tagged sums: the contracts of package sha's Tagged and of the document's own. What each kind of operation does, as a step of a region that draws its order and has guards; calls of the sums. What an argument is: a byte; a list of lists of bytes. What an argument is: a list of hashes. -/
import Derived.Test.YtpeepiboocdnaaaDoorKB
import Derived.Laws.MakeOwn
import Derived.Test.YtpeepiboocdnaaaDoorKA
import Derived.LaidMore
namespace Go.Proofs.YtpeepiboocdnaaaDoor
open Go.RowKit

theorem i64_nat (n m : Nat) (z : Int) (h : z = (m : Int)) (hm : m ≤ n) (hn : n ≤ 1000000000000) : IntKind.i64.wrap z = (m : Int) := by
  subst h; exact IntWalk.i64_in _ ⟨by omega, by omega⟩
theorem size_8 : (Tryd.prog.info? 84).map (·.size) = some 8 := by kernel_rfl
theorem load_8 (w : World) (g : Nat) (s : St) (t : TypeId) (fr : Nat × Nat) (hg : w.heap[g]? = some (.cells (s.cells.map wv).toArray t fr)) :
    (loadVar 84 ⟨g, 0, none⟩).run Tryd.prog w = .ok (stV s) w :=
  run_loadVar_row (P := Tryd.prog) w g t 84 (s.cells.map wv).toArray fr _ hg Tryd.underlying84 rfl size_8
theorem cell_st {w : World} {g : Nat} {s : St} {t : TypeId} {fr : Nat × Nat} (h : w.heap[g]? = some (.cells (s.cells.map wv).toArray t fr)) (j : Nat) (hj : j < 8) : w.cell? ⟨g, j, none⟩ = some (.int .u32 ((s.cells.getD j 0).toNat : Int)) := by
  rw [cell_of_row w _ _ _ _ _ h]
  exact St.cells_get s j hj
theorem add_get (s r : St) : ∀ k, k < 8 → (s.add r).cells.getD k 0 = pW (s.cells.getD k 0) (r.cells.getD k 0)
  | 0, _ => rfl
  | 1, _ => rfl
  | 2, _ => rfl
  | 3, _ => rfl
  | 4, _ => rfl
  | 5, _ => rfl
  | 6, _ => rfl
  | 7, _ => rfl
  | k + 8, h => absurd h (by omega)
theorem mixed_get (s r : St) : ∀ k, k < 8 → (((s.add r).cells.take k ++ s.cells.drop k).map wv).toArray[k]? = some (.int .u32 ((s.cells.getD k 0).toNat : Int))
  | 0, _ => rfl
  | 1, _ => rfl
  | 2, _ => rfl
  | 3, _ => rfl
  | 4, _ => rfl
  | 5, _ => rfl
  | 6, _ => rfl
  | 7, _ => rfl
  | k + 8, h => absurd h (by omega)
theorem mixed_set (s r : St) {z : UInt32} : ∀ k, k < 8 → z = (s.add r).cells.getD k 0 → (((s.add r).cells.take k ++ s.cells.drop k).map wv).toArray.setIfInBounds k (.int .u32 (z.toNat : Int)) = (((s.add r).cells.take (k + 1) ++ s.cells.drop (k + 1)).map wv).toArray
  | 0, _, h => by subst h; rfl
  | 1, _, h => by subst h; rfl
  | 2, _, h => by subst h; rfl
  | 3, _, h => by subst h; rfl
  | 4, _, h => by subst h; rfl
  | 5, _, h => by subst h; rfl
  | 6, _, h => by subst h; rfl
  | 7, _, h => by subst h; rfl
  | k + 8, h, _ => absurd h (by omega)
theorem keep_of {w w' : World} {g : Nat} {o : Obj} (h : w.heap[g]? = some o) (hg : w.grownBy w' none) : w'.heap[g]? = some o :=
  (hg.block _ (Array.getElem?_eq_some_iff.1 h).1 (by simp)).trans h

set_option maxRecDepth 100000 in
set_option maxHeartbeats 4000000 in
theorem block_any (s : St) (A : Option Addr) (b : List UInt8) (c : Nat) (AK : Option Addr) (cK : Nat) (w : World) (hr : RdB w A b) (hl : b.length = 64) (hK : RdAt w AK (keysL.map wv)) :
    Calls Tryd.prog 63 #[stV s, .slice A 64 c, .slice AK 64 cK] w fun e w' => e = .returned (stV (stir s b)) ∧ w.grownBy w' none := by
  obtain ⟨ad, rfl, hcell⟩ := hr.get (k := 0) (by omega)
  clear hcell
  have hkl : (keysL.map wv).length = 64 := rfl
  obtain ⟨ak, rfl, hcell⟩ := hK.get (k := 0) (by rw [hkl]; omega)
  clear hcell hkl
  unfold stV
  go_enter Tryd.func63, Tryd.ntmps63
  go_wp2
  go_loopw [20] (fun i wr => ∃ k : Nat, k ≤ 16 ∧ i = .int .i64 k ∧ Hid (wr.heap[w.heap.size]? = some (.cells (s.cells.map wv).toArray 84 (0, 0))) ∧ Hid (wr.heap[w.heap.size + 1]? = some (.cells #[.int .u32 0, .int .u32 0, .int .u32 0, .int .u32 0, .int .u32 0, .int .u32 0, .int .u32 0, .int .u32 0] 84 (0, 0))) ∧ Hid (wr.heap[w.heap.size + 2]? = some (.cells (rowW (words16 b k)) 93 (0, 0))) ∧ w.grownBy wr none) (fun i _ => 16 - (intOf i).toNat)
  case atStart => exact ⟨0, by omega, rfl, (heap_alloc_3 _ _ _ _).1, (heap_alloc_3 _ _ _ _).2.1, (heap_alloc_3 _ _ _ _).2.2, grown_alloc (grown_alloc (grown_alloc (grown_refl _ _) _) _) _⟩
  case round =>
    obtain ⟨k, hk, rfl, hqh, hqr, hqw, hg⟩ := hrel
    by_cases hlt : k < 16
    · have hr' := hr.kept hg
      obtain ⟨q, hq⟩ : ∃ q, q = 4 * k := ⟨_, rfl⟩
      obtain ⟨q1, hq1⟩ : ∃ q1, q1 = 4 * k + 1 := ⟨_, rfl⟩
      obtain ⟨q2, hq2⟩ : ∃ q2, q2 = 4 * k + 2 := ⟨_, rfl⟩
      obtain ⟨q3, hq3⟩ : ∃ q3, q3 = 4 * k + 3 := ⟨_, rfl⟩
      obtain ⟨_, e0, hc0⟩ := RdB.get hr' (k := q) (by omega)
      obtain ⟨_, e1, hc1⟩ := RdB.get hr' (k := q1) (by omega)
      obtain ⟨_, e2, hc2⟩ := RdB.get hr' (k := q2) (by omega)
      obtain ⟨_, e3, hc3⟩ := RdB.get hr' (k := q3) (by omega)
      cases e0; cases e1; cases e2; cases e3
      obtain ⟨p0, hp0⟩ : ∃ p, p = b[q]'(by omega) := ⟨_, rfl⟩
      obtain ⟨p1, hp1⟩ : ∃ p, p = b[q1]'(by omega) := ⟨_, rfl⟩
      obtain ⟨p2, hp2⟩ : ∃ p, p = b[q2]'(by omega) := ⟨_, rfl⟩
      obtain ⟨p3, hp3⟩ : ∃ p, p = b[q3]'(by omega) := ⟨_, rfl⟩
      rw [← hp0] at hc0
      rw [← hp1] at hc1
      rw [← hp2] at hc2
      rw [← hp3] at hc3
      have HW : Hid (wordAt b k = wordOf p0 p1 p2 p3) := by
        show _ = _
        subst hq hq1 hq2 hq3
        exact wordAt_of (by omega) hp0 hp1 hp2 hp3
      have x0 : IntKind.i64.wrap (4 * (k : Int)) = (q : Int) := by rw [IntWalk.i64_in _ ⟨by omega, by omega⟩]; omega
      have x1 : IntKind.i64.wrap ((q : Int) + 1) = (q1 : Int) := by rw [IntWalk.i64_in _ ⟨by omega, by omega⟩]; omega
      have x2 : IntKind.i64.wrap ((q : Int) + 2) = (q2 : Int) := by rw [IntWalk.i64_in _ ⟨by omega, by omega⟩]; omega
      have x3 : IntKind.i64.wrap ((q : Int) + 3) = (q3 : Int) := by rw [IntWalk.i64_in _ ⟨by omega, by omega⟩]; omega
      have y0 : (q : Int) < 64 := by omega
      have y1 : (q1 : Int) < 64 := by omega
      have y2 : (q2 : Int) < 64 := by omega
      have y3 : (q3 : Int) < 64 := by omega
      clear hp0 hp1 hp2 hp3 hq hq1 hq2 hq3
      have r0 := wrap_byte
      have r1 := wrap_l24
      have r2 := wrap_l16
      have r3 := wrap_l8
      have r4 := bits_or
      have k64 : (k : Int) < 64 := by omega
      have hlen := words16_len b k
      have hcell : wr.cell? ⟨w.heap.size + 2, k, none⟩ = some (.int .u32 0) := by
        rw [cell_of_row wr _ _ _ _ _ hqw.out]; exact rowW_zero _ _ (by omega) (by omega)
      have hfro : wr.frozen? ⟨w.heap.size + 2, k, none⟩ = false := frozen_of_row wr _ _ _ _ hqw.out
      clear hlen
      go_wp2
      go_still_tail 35, (by kernel_rfl)
      clear r0 r1 r2 r3 r4 x0 x1 x2 x3
      change wpList _ _ _ _ _ wr.drew
      go_wp2
      go_roundw
      case rel =>
        have e : words16 b (k + 1) = words16 b k ++ [wordOf p0 p1 p2 p3] := by rw [← HW.out]; rfl
        refine ⟨k + 1, by omega, by go_num, ?_, ?_, ?_, grown_set (grown_drew hg) (.inr (by show _ ≤ w.heap.size + 2; omega)) _⟩
        · show _ = _
          exact (Below.heap_setCell wr.drew ⟨w.heap.size + 2, k, none⟩ _ w.heap.size (by simp)).trans hqh.out
        · show _ = _
          exact (Below.heap_setCell wr.drew ⟨w.heap.size + 2, k, none⟩ _ (w.heap.size + 1) (by simp)).trans hqr.out
        · show _ = _
          rw [e]
          exact rowW_store (w := wr.drew) hqw.out (words16_len b k) (by omega)
      case measure => simp [intOf]; omega
    · have hk16 : k = 16 := by omega
      subst hk16
      clear hlt hk
      rw [show ((16 : Nat) : Int) = 16 from rfl]
      go_wp2
      go_loopw [9] (fun i wr => ∃ m : Nat, 16 ≤ m ∧ m ≤ 64 ∧ i = .int .i64 m ∧ Hid (wr.heap[w.heap.size]? = some (.cells (s.cells.map wv).toArray 84 (0, 0))) ∧ Hid (wr.heap[w.heap.size + 1]? = some (.cells #[.int .u32 0, .int .u32 0, .int .u32 0, .int .u32 0, .int .u32 0, .int .u32 0, .int .u32 0, .int .u32 0] 84 (0, 0))) ∧ Hid (wr.heap[w.heap.size + 2]? = some (.cells (rowW (sched b (m - 16))) 93 (0, 0))) ∧ w.grownBy wr none) (fun i _ => 64 - (intOf i).toNat)
      case atStart => exact ⟨16, by omega, by omega, rfl, hqh, hqr, hqw, hg⟩
      case round =>
        clear hqh hqr hqw hg
        obtain ⟨m, hm0, hm1, rfl, hqh, hqr, hqw, hg⟩ := hrel
        by_cases hlt : m < 64
        · have hlen : (sched b (m - 16)).length = m := by rw [sched_len]; omega
          have g1 : ∀ j, j < m → wr.cell? ⟨w.heap.size + 2, j, none⟩ = some (.int .u32 (((sched b (m - 16)).getD j 0).toNat : Int)) := fun j hj => by
            rw [cell_of_row wr _ _ _ _ _ hqw.out]; exact rowW_get _ _ (by omega)
          have g15 := g1 (m - 15) (by omega)
          have g2 := g1 (m - 2) (by omega)
          have hcell : wr.cell? ⟨w.heap.size + 2, m, none⟩ = some (.int .u32 0) := by
            rw [cell_of_row wr _ _ _ _ _ hqw.out]; exact rowW_zero _ _ (by omega) (by omega)
          have hfro : wr.frozen? ⟨w.heap.size + 2, m, none⟩ = false := frozen_of_row wr _ _ _ _ hqw.out
          obtain ⟨m16, hm16⟩ : ∃ j, j = m - 16 := ⟨_, rfl⟩
          obtain ⟨m7, hm7⟩ : ∃ j, j = m - 7 := ⟨_, rfl⟩
          have g16 := g1 m16 (by omega)
          have g7 := g1 m7 (by omega)
          obtain ⟨x15, e15⟩ : ∃ x, x = (sched b (m - 16)).getD (m - 15) 0 := ⟨_, rfl⟩
          obtain ⟨x2, e2⟩ : ∃ x, x = (sched b (m - 16)).getD (m - 2) 0 := ⟨_, rfl⟩
          obtain ⟨x16, e16⟩ : ∃ x, x = (sched b (m - 16)).getD m16 0 := ⟨_, rfl⟩
          obtain ⟨x7, e7⟩ : ∃ x, x = (sched b (m - 16)).getD m7 0 := ⟨_, rfl⟩
          rw [← e15] at g15
          rw [← e2] at g2
          rw [← e16] at g16
          rw [← e7] at g7
          have HN : Hid (nextW (sched b (m - 16)) = pW (pW (pW x16 (ssig0 x15)) x7) (ssig1 x2)) := by
            show _ = _
            unfold nextW
            rw [hlen, e15, e2, e16, e7, hm16, hm7]
          have HL := Lib.hid hlen
          have f16 : IntKind.i64.wrap ((m : Int) - 16) = (m16 : Int) := by rw [IntWalk.i64_in _ ⟨by omega, by omega⟩]; omega
          have f7 : IntKind.i64.wrap ((m : Int) - 7) = (m7 : Int) := by rw [IntWalk.i64_in _ ⟨by omega, by omega⟩]; omega
          have b16 : (m16 : Int) < 64 := by omega
          have b7 : (m7 : Int) < 64 := by omega
          have bm : (m : Int) < 64 := by omega
          clear e15 e2 e16 e7 hlen g1 hm16 hm7
          have F16 := Lib.hid f16
          have F7 := Lib.hid f7
          clear f16 f7
          go_wp2
          go_quiet (fail)
          go_wp2
          obtain ⟨w3, hw3⟩ : ∃ w3, w3 = (wr.drewN nq).drew := ⟨_, rfl⟩
          replace g16 : w3.cell? ⟨w.heap.size + 2, m16, none⟩ = some (.int .u32 (x16.toNat : Int)) := by rw [hw3]; exact g16
          replace g7 : w3.cell? ⟨w.heap.size + 2, m7, none⟩ = some (.int .u32 (x7.toNat : Int)) := by rw [hw3]; exact g7
          replace hcell : w3.cell? ⟨w.heap.size + 2, m, none⟩ = some (.int .u32 0) := by rw [hw3]; exact hcell
          replace hfro : w3.frozen? ⟨w.heap.size + 2, m, none⟩ = false := by rw [hw3]; exact hfro
          replace hqh : Hid (w3.heap[w.heap.size]? = some (.cells (s.cells.map wv).toArray 84 (0, 0))) := by rw [hw3]; exact hqh
          replace hqr : Hid (w3.heap[w.heap.size + 1]? = some (.cells #[.int .u32 0, .int .u32 0, .int .u32 0, .int .u32 0, .int .u32 0, .int .u32 0, .int .u32 0, .int .u32 0] 84 (0, 0))) := by rw [hw3]; exact hqr
          replace hqw : Hid (w3.heap[w.heap.size + 2]? = some (.cells (rowW (sched b (m - 16))) 93 (0, 0))) := by rw [hw3]; exact hqw
          replace hg : w.grownBy w3 none := by rw [hw3]; exact grown_drew (grown_drewN hg nq)
          refine wp_region_still_tail 29 (by kernel_rfl) (by kernel_rfl) ?_
          change wpStill _ _ (wr.drewN nq).drew (fun a' => wpList _ _ _ _ a' (wr.drewN nq).drew) _ _
          rw [← hw3]
          clear hw3 g15 g2
          have r0 := wrap_add
          have r1 := bits_xor
          have r2 := fun x => (div_r x).1
          have r3 := fun x => (div_r x).2
          have f16 := F16.out
          have f7 := F7.out
          simp only [List.take_succ_cons, List.take_zero, List.drop_succ_cons, List.drop_zero]
          repeat (first | still_step | still_call (turn_m _ _ _ (by omega)))
          try refine wpStill_nil ?_
          clear r0 r1 r2 r3 f16 f7
          go_wp2
          go_roundw
          case rel =>
            have e : sched b (m + 1 - 16) = sched b (m - 16) ++ [pW (pW (pW x16 (ssig0 x15)) x7) (ssig1 x2)] := by
              rw [show m + 1 - 16 = (m - 16) + 1 by omega, ← HN.out]; rfl
            refine ⟨m + 1, by omega, by omega, by go_num, ?_, ?_, ?_, grown_set hg (.inr (by show _ ≤ w.heap.size + 2; omega)) _⟩
            · show _ = _
              exact (Below.heap_setCell w3 ⟨w.heap.size + 2, m, none⟩ _ w.heap.size (by simp)).trans hqh.out
            · show _ = _
              exact (Below.heap_setCell w3 ⟨w.heap.size + 2, m, none⟩ _ (w.heap.size + 1) (by simp)).trans hqr.out
            · show _ = _
              rw [e]
              exact rowW_store hqw.out HL.out (by omega)
          case measure => simp [intOf]; omega
        · have hm64 : m = 64 := by omega
          subst hm64
          clear hlt hm0 hm1
          rw [show ((64 : Nat) : Int) = 64 from rfl]
          have hXl0 : (sched b 48).length = 64 := sched_len b 48
          replace hqw : Hid (wr.heap[w.heap.size + 2]? = some (.cells (rowW (sched b 48)) 93 (0, 0))) := hqw
          obtain ⟨X, hX⟩ : ∃ X, X = sched b 48 := ⟨_, rfl⟩
          rw [← hX] at hXl0 hqw
          have HX := Lib.hid hX
          have hXl := Lib.hid hXl0
          clear hXl0 hX
          go_wp2_with (first
            | (refine wpList_load_row rfl 84 _ rfl w.heap.size rfl 84 (s.cells.map wv).toArray (0, 0) _ hqh.out Tryd.underlying84 rfl size_8 ?_)
            | (refine wpList_store_row rfl 84 _ _ rfl wr.heap.size (s.cells.map wv).toArray rfl rfl 84 _ (heap_alloc_new _ _) size_8 rfl (wv_all _) ?_; generalize hw4 : World.setRow _ _ _ = w4; have HW4 := Lib.hid hw4; clear hw4))
          have hgv : Hid (w.heap.size + 3 ≤ wr.heap.size) := (Array.getElem?_eq_some_iff.1 hqw.out).1
          have hg4 : w.grownBy w4 none := by
            rw [← HW4.out]
            exact grown_setRow (grown_alloc hg _) (.inr (by have := hgv.out; omega)) _
          have hold : ∀ j, j < wr.heap.size → w4.heap[j]? = wr.heap[j]? := fun j hj => by
            rw [← HW4.out, setRow_other _ _ _ _ (by omega)]
            exact Below.heap_alloc _ _ _ hj
          have hqh4 : Hid (w4.heap[w.heap.size]? = some (.cells (s.cells.map wv).toArray 84 (0, 0))) := by
            show _ = _
            rw [hold _ (by have := hgv.out; omega)]; exact hqh.out
          have hqr4 : Hid (w4.heap[w.heap.size + 1]? = some (.cells #[.int .u32 0, .int .u32 0, .int .u32 0, .int .u32 0, .int .u32 0, .int .u32 0, .int .u32 0, .int .u32 0] 84 (0, 0))) := by
            show _ = _
            rw [hold _ (by have := hgv.out; omega)]; exact hqr.out
          have hqx4 : Hid (w4.heap[w.heap.size + 2]? = some (.cells (rowW X) 93 (0, 0))) := by
            show _ = _
            rw [hold _ (by have := hgv.out; omega)]; exact hqw.out
          have hqv4 : Hid (w4.heap[wr.heap.size]? = some (.cells ((rounds X s 0).cells.map wv).toArray 84 (0, 0))) := by
            show _ = _
            rw [← HW4.out]
            exact setRow_heap _ _ _ _ _ _ (heap_alloc_new _ _)
          clear hold HW4 hqh hqr hqw hg
          generalize hge : wr.heap.size = gv at hgv hqv4 ⊢
          clear hge
          go_loopw [101] (fun i wz => ∃ k : Nat, k ≤ 64 ∧ i = .int .i64 k ∧ Hid (wz.heap[w.heap.size]? = some (.cells (s.cells.map wv).toArray 84 (0, 0))) ∧ Hid (wz.heap[w.heap.size + 1]? = some (.cells #[.int .u32 0, .int .u32 0, .int .u32 0, .int .u32 0, .int .u32 0, .int .u32 0, .int .u32 0, .int .u32 0] 84 (0, 0))) ∧ Hid (wz.heap[w.heap.size + 2]? = some (.cells (rowW X) 93 (0, 0))) ∧ Hid (wz.heap[gv]? = some (.cells ((rounds X s k).cells.map wv).toArray 84 (0, 0))) ∧ w.grownBy wz none) (fun i _ => 64 - (intOf i).toNat)
          case atStart => exact ⟨0, by omega, rfl, hqh4, hqr4, hqx4, hqv4, hg4⟩
          case round =>
            clear hqh4 hqr4 hqx4 hqv4 hg4
            obtain ⟨k, hk64, rfl, hqh, hqr, hqx, hqv, hg⟩ := hrel
            by_cases hlt : k < 64
            · have ck : wr.cell? (ak.add k) = some (.int .u32 ((keysL.getD k 0).toNat : Int)) := by
                obtain ⟨_, e, hc⟩ := RdAt.get (hK.kept hg) (k := k) (show k < (keysL.map wv).length from hlt)
                cases e
                rw [hc, getD_at keysL k 0 hlt, List.getElem_map]
                rfl
              have cw : wr.cell? ⟨w.heap.size + 2, k, none⟩ = some (.int .u32 ((X.getD k 0).toNat : Int)) := by
                rw [cell_of_row wr _ _ _ _ _ hqx.out]; exact rowW_get _ _ (by rw [hXl.out]; exact hlt)
              obtain ⟨K, hK'⟩ : ∃ K, K = keysL.getD k 0 := ⟨_, rfl⟩
              obtain ⟨Y, hY⟩ : ∃ Y, Y = X.getD k 0 := ⟨_, rfl⟩
              obtain ⟨r, hr'⟩ : ∃ r, r = rounds X s k := ⟨_, rfl⟩
              rw [← hK'] at ck
              rw [← hY] at cw
              rw [← hr'] at hqv
              have HK := Lib.hid hK'
              have HY := Lib.hid hY
              have HR := Lib.hid hr'
              clear hK' hY hr'
              have v0 : wr.cell? ⟨gv, 0, none⟩ = some (.int .u32 (r.a.toNat : Int)) := cell_st hqv.out 0 (by omega)
              have v1 : wr.cell? ⟨gv, 1, none⟩ = some (.int .u32 (r.b.toNat : Int)) := cell_st hqv.out 1 (by omega)
              have v2 : wr.cell? ⟨gv, 2, none⟩ = some (.int .u32 (r.c.toNat : Int)) := cell_st hqv.out 2 (by omega)
              have v3 : wr.cell? ⟨gv, 3, none⟩ = some (.int .u32 (r.d.toNat : Int)) := cell_st hqv.out 3 (by omega)
              have v4 : wr.cell? ⟨gv, 4, none⟩ = some (.int .u32 (r.e.toNat : Int)) := cell_st hqv.out 4 (by omega)
              have v5 : wr.cell? ⟨gv, 5, none⟩ = some (.int .u32 (r.f.toNat : Int)) := cell_st hqv.out 5 (by omega)
              have v6 : wr.cell? ⟨gv, 6, none⟩ = some (.int .u32 (r.g.toNat : Int)) := cell_st hqv.out 6 (by omega)
              have v7 : wr.cell? ⟨gv, 7, none⟩ = some (.int .u32 (r.h.toNat : Int)) := cell_st hqv.out 7 (by omega)
              have k64 : (k : Int) < 64 := by omega
              have r0 := bits_xor
              have r1 := bits_and
              have r2 := wrap_add
              have r3 := add_w
              have r4 := bits_not
              go_wp2
              go_quiet (first | (go_at_call 67; refine Calls.quiet_of_same (turn_m _ _ _ (by omega))))
              obtain ⟨w5, hw5⟩ : ∃ w5, w5 = wr.drewN nq := ⟨_, rfl⟩
              replace v0 : w5.cell? ⟨gv, 0, none⟩ = some (.int .u32 (r.a.toNat : Int)) := by rw [hw5]; exact v0
              replace v1 : w5.cell? ⟨gv, 1, none⟩ = some (.int .u32 (r.b.toNat : Int)) := by rw [hw5]; exact v1
              replace v2 : w5.cell? ⟨gv, 2, none⟩ = some (.int .u32 (r.c.toNat : Int)) := by rw [hw5]; exact v2
              replace v3 : w5.cell? ⟨gv, 3, none⟩ = some (.int .u32 (r.d.toNat : Int)) := by rw [hw5]; exact v3
              replace v4 : w5.cell? ⟨gv, 4, none⟩ = some (.int .u32 (r.e.toNat : Int)) := by rw [hw5]; exact v4
              replace v5 : w5.cell? ⟨gv, 5, none⟩ = some (.int .u32 (r.f.toNat : Int)) := by rw [hw5]; exact v5
              replace v6 : w5.cell? ⟨gv, 6, none⟩ = some (.int .u32 (r.g.toNat : Int)) := by rw [hw5]; exact v6
              replace v7 : w5.cell? ⟨gv, 7, none⟩ = some (.int .u32 (r.h.toNat : Int)) := by rw [hw5]; exact v7
              replace ck : w5.cell? (ak.add k) = some (.int .u32 (K.toNat : Int)) := by rw [hw5]; exact ck
              replace cw : w5.cell? ⟨w.heap.size + 2, k, none⟩ = some (.int .u32 (Y.toNat : Int)) := by rw [hw5]; exact cw
              replace hqh : Hid (w5.heap[w.heap.size]? = some (.cells (s.cells.map wv).toArray 84 (0, 0))) := by rw [hw5]; exact hqh
              replace hqr : Hid (w5.heap[w.heap.size + 1]? = some (.cells #[.int .u32 0, .int .u32 0, .int .u32 0, .int .u32 0, .int .u32 0, .int .u32 0, .int .u32 0, .int .u32 0] 84 (0, 0))) := by rw [hw5]; exact hqr
              replace hqx : Hid (w5.heap[w.heap.size + 2]? = some (.cells (rowW X) 93 (0, 0))) := by rw [hw5]; exact hqx
              replace hqv : Hid (w5.heap[gv]? = some (.cells (r.cells.map wv).toArray 84 (0, 0))) := by rw [hw5]; exact hqv
              replace hg : w.grownBy w5 none := by rw [hw5]; exact grown_drewN hg _
              rw [← hw5]
              clear hw5
              go_wp2
              go_quiet (fail)
              obtain ⟨w6, hw6⟩ : ∃ w6, w6 = w5.drewN nq := ⟨_, rfl⟩
              replace v0 : w6.cell? ⟨gv, 0, none⟩ = some (.int .u32 (r.a.toNat : Int)) := by rw [hw6]; exact v0
              replace v1 : w6.cell? ⟨gv, 1, none⟩ = some (.int .u32 (r.b.toNat : Int)) := by rw [hw6]; exact v1
              replace v2 : w6.cell? ⟨gv, 2, none⟩ = some (.int .u32 (r.c.toNat : Int)) := by rw [hw6]; exact v2
              replace v3 : w6.cell? ⟨gv, 3, none⟩ = some (.int .u32 (r.d.toNat : Int)) := by rw [hw6]; exact v3
              replace v4 : w6.cell? ⟨gv, 4, none⟩ = some (.int .u32 (r.e.toNat : Int)) := by rw [hw6]; exact v4
              replace v5 : w6.cell? ⟨gv, 5, none⟩ = some (.int .u32 (r.f.toNat : Int)) := by rw [hw6]; exact v5
              replace v6 : w6.cell? ⟨gv, 6, none⟩ = some (.int .u32 (r.g.toNat : Int)) := by rw [hw6]; exact v6
              replace v7 : w6.cell? ⟨gv, 7, none⟩ = some (.int .u32 (r.h.toNat : Int)) := by rw [hw6]; exact v7
              clear ck
              clear cw
              replace hqh : Hid (w6.heap[w.heap.size]? = some (.cells (s.cells.map wv).toArray 84 (0, 0))) := by rw [hw6]; exact hqh
              replace hqr : Hid (w6.heap[w.heap.size + 1]? = some (.cells #[.int .u32 0, .int .u32 0, .int .u32 0, .int .u32 0, .int .u32 0, .int .u32 0, .int .u32 0, .int .u32 0] 84 (0, 0))) := by rw [hw6]; exact hqr
              replace hqx : Hid (w6.heap[w.heap.size + 2]? = some (.cells (rowW X) 93 (0, 0))) := by rw [hw6]; exact hqx
              replace hqv : Hid (w6.heap[gv]? = some (.cells (r.cells.map wv).toArray 84 (0, 0))) := by rw [hw6]; exact hqv
              replace hg : w.grownBy w6 none := by rw [hw6]; exact grown_drewN hg _
              rw [← hw6]
              clear hw6
              obtain ⟨T, hT⟩ : ∃ T, T = tOf K Y r := ⟨_, rfl⟩
              have hTe : pW (pW (pW (pW r.h (xW (xW (rotr r.e 6) (rotr r.e 11)) (rotr r.e 25))) (xW (aW r.e r.f) (aW (nW r.e) r.g))) K) Y = T := by rw [hT]; rfl
              rw [hTe]
              have HT := Lib.hid hT
              clear hT hTe
              go_wp2
              go_quiet (first | (go_at_call 67; refine Calls.quiet_of_same (turn_m _ _ _ (by omega))))
              obtain ⟨w7, hw7⟩ : ∃ w7, w7 = w6.drewN nq := ⟨_, rfl⟩
              replace v0 : w7.cell? ⟨gv, 0, none⟩ = some (.int .u32 (r.a.toNat : Int)) := by rw [hw7]; exact v0
              replace v1 : w7.cell? ⟨gv, 1, none⟩ = some (.int .u32 (r.b.toNat : Int)) := by rw [hw7]; exact v1
              replace v2 : w7.cell? ⟨gv, 2, none⟩ = some (.int .u32 (r.c.toNat : Int)) := by rw [hw7]; exact v2
              replace v3 : w7.cell? ⟨gv, 3, none⟩ = some (.int .u32 (r.d.toNat : Int)) := by rw [hw7]; exact v3
              replace v4 : w7.cell? ⟨gv, 4, none⟩ = some (.int .u32 (r.e.toNat : Int)) := by rw [hw7]; exact v4
              replace v5 : w7.cell? ⟨gv, 5, none⟩ = some (.int .u32 (r.f.toNat : Int)) := by rw [hw7]; exact v5
              replace v6 : w7.cell? ⟨gv, 6, none⟩ = some (.int .u32 (r.g.toNat : Int)) := by rw [hw7]; exact v6
              replace v7 : w7.cell? ⟨gv, 7, none⟩ = some (.int .u32 (r.h.toNat : Int)) := by rw [hw7]; exact v7
              replace hqh : Hid (w7.heap[w.heap.size]? = some (.cells (s.cells.map wv).toArray 84 (0, 0))) := by rw [hw7]; exact hqh
              replace hqr : Hid (w7.heap[w.heap.size + 1]? = some (.cells #[.int .u32 0, .int .u32 0, .int .u32 0, .int .u32 0, .int .u32 0, .int .u32 0, .int .u32 0, .int .u32 0] 84 (0, 0))) := by rw [hw7]; exact hqr
              replace hqx : Hid (w7.heap[w.heap.size + 2]? = some (.cells (rowW X) 93 (0, 0))) := by rw [hw7]; exact hqx
              replace hqv : Hid (w7.heap[gv]? = some (.cells (r.cells.map wv).toArray 84 (0, 0))) := by rw [hw7]; exact hqv
              replace hg : w.grownBy w7 none := by rw [hw7]; exact grown_drewN hg _
              rw [← hw7]
              clear hw7
              go_wp2_with (first
                | (refine wpList_store_row rfl 84 _ _ rfl gv (([pW (pW T (xW (xW (rotr r.a 2) (rotr r.a 13)) (rotr r.a 22))) (xW (xW (aW r.a r.b) (aW r.a r.c)) (aW r.b r.c)), r.a, r.b, r.c, pW r.d T, r.e, r.f, r.g] : List UInt32).map wv).toArray rfl rfl 84 (r.cells.map wv).toArray hqv.out size_8 rfl (wv_all [pW (pW T (xW (xW (rotr r.a 2) (rotr r.a 13)) (rotr r.a 22))) (xW (xW (aW r.a r.b) (aW r.a r.c)) (aW r.b r.c)), r.a, r.b, r.c, pW r.d T, r.e, r.f, r.g]) ?_; generalize hw8 : World.setRow _ _ _ = w8; have HW8 := Lib.hid hw8; clear hw8))
              go_roundw
              case rel =>
                have e : rounds X s (k + 1) = round K Y r := by rw [rounds, ← HK.out, ← HY.out, ← HR.out]
                have e2 : (([pW (pW T (xW (xW (rotr r.a 2) (rotr r.a 13)) (rotr r.a 22))) (xW (xW (aW r.a r.b) (aW r.a r.c)) (aW r.b r.c)), r.a, r.b, r.c, pW r.d T, r.e, r.f, r.g] : List UInt32)) = (round K Y r).cells := by
                  rw [HT.out]
                  unfold round St.cells uOf majOf rot3 pW
                  simp only [UInt32.add_assoc]
                refine ⟨k + 1, by omega, by go_num, ?_, ?_, ?_, ?_, ?_⟩
                · show _ = _
                  rw [← HW8.out, setRow_other _ _ _ _ (by have := hgv.out; omega)]; exact hqh.out
                · show _ = _
                  rw [← HW8.out, setRow_other _ _ _ _ (by have := hgv.out; omega)]; exact hqr.out
                · show _ = _
                  rw [← HW8.out, setRow_other _ _ _ _ (by have := hgv.out; omega)]; exact hqx.out
                · show _ = _
                  rw [← HW8.out, e, ← e2]
                  exact setRow_heap _ _ _ _ _ _ hqv.out
                · rw [← HW8.out]
                  exact grown_setRow hg (.inr (by have := hgv.out; omega)) _
              case measure => simp [intOf]; omega
            · have hk64' : k = 64 := by omega
              subst hk64'
              clear hlt hk64
              rw [show ((64 : Nat) : Int) = 64 from rfl]
              obtain ⟨r, hr'⟩ : ∃ r, r = rounds X s 64 := ⟨_, rfl⟩
              rw [← hr'] at hqv
              have HR := Lib.hid hr'
              clear hr'
              go_wp2
              go_loopw [193] (fun i wz => ∃ k : Nat, k ≤ 8 ∧ i = .int .i64 k ∧ Hid (wz.heap[w.heap.size]? = some (.cells (((s.add r).cells.take k ++ s.cells.drop k).map wv).toArray 84 (0, 0))) ∧ Hid (wz.heap[w.heap.size + 1]? = some (.cells #[.int .u32 0, .int .u32 0, .int .u32 0, .int .u32 0, .int .u32 0, .int .u32 0, .int .u32 0, .int .u32 0] 84 (0, 0))) ∧ Hid (wz.heap[gv]? = some (.cells (r.cells.map wv).toArray 84 (0, 0))) ∧ w.grownBy wz none) (fun i _ => 8 - (intOf i).toNat)
              case atStart => exact ⟨0, by omega, rfl, hqh, hqr, hqv, hg⟩
              case round =>
                clear hqh hqr hqx hqv hg
                obtain ⟨k, hk8, rfl, hqh, hqr, hqv, hg⟩ := hrel
                by_cases hlt : k < 8
                · have hc1 : wr.cell? ⟨w.heap.size, k, none⟩ = some (.int .u32 ((s.cells.getD k 0).toNat : Int)) := by
                    rw [cell_of_row wr _ _ _ _ _ hqh.out]; exact mixed_get s r k hlt
                  have hc2 : wr.cell? ⟨gv, k, none⟩ = some (.int .u32 ((r.cells.getD k 0).toNat : Int)) := cell_st hqv.out k hlt
                  have hf : wr.frozen? ⟨w.heap.size, k, none⟩ = false := frozen_of_row wr _ _ _ _ hqh.out
                  obtain ⟨x, hx⟩ : ∃ x, x = s.cells.getD k 0 := ⟨_, rfl⟩
                  obtain ⟨y, hy⟩ : ∃ y, y = r.cells.getD k 0 := ⟨_, rfl⟩
                  rw [← hx] at hc1
                  rw [← hy] at hc2
                  have hxy : Hid (pW x y = (s.add r).cells.getD k 0) := by show _ = _; rw [hx, hy]; exact (add_get s r k hlt).symm
                  clear hx hy
                  have k8 : (k : Int) < 8 := by omega
                  have r2 := wrap_add
                  go_wp2
                  go_still_tail 9, (by kernel_rfl)
                  clear r2
                  change wpList _ _ _ _ _ wr.drew
                  go_wp2
                  go_roundw
                  case rel =>
                    refine ⟨k + 1, by omega, by go_num, ?_, ?_, ?_, grown_set (grown_drew hg) (.inr (Nat.le_refl _)) _⟩
                    · show _ = _
                      refine heap_setCell_to (w := wr.drew) hqh.out ?_
                      exact mixed_set s r k hlt hxy.out
                    · show _ = _
                      exact (Below.heap_setCell wr.drew ⟨w.heap.size, k, none⟩ _ (w.heap.size + 1) (by simp)).trans hqr.out
                    · show _ = _
                      exact (Below.heap_setCell wr.drew ⟨w.heap.size, k, none⟩ _ gv (by have := hgv.out; show gv ≠ w.heap.size; omega)).trans hqv.out
                  case measure => simp [intOf]; omega
                · have hk8' : k = 8 := by omega
                  subst hk8'
                  replace hqh : Hid (wr.heap[w.heap.size]? = some (.cells ((s.add r).cells.map wv).toArray 84 (0, 0))) := hqh
                  have hres : Hid (s.add r = stir s b) := by show _ = _; rw [HR.out, HX.out]; rfl
                  obtain ⟨Z, hZ⟩ : ∃ Z, Z = s.add r := ⟨_, rfl⟩
                  rw [← hZ] at hqh hres
                  clear hZ
                  go_wp2_with (first
                    | (refine wpList_load_row rfl 84 _ rfl w.heap.size rfl 84 (Z.cells.map wv).toArray (0, 0) _ hqh.out Tryd.underlying84 rfl size_8 ?_)
                    | (refine wpList_store_row rfl 84 _ _ rfl (w.heap.size + 1) (Z.cells.map wv).toArray rfl rfl 84 _ hqr.out size_8 rfl (wv_all _) ?_))
                  refine bodyPost_ret (results_cell_row rfl _ _ (w.heap.size + 1) 84 (Z.cells.map wv).toArray (0, 0) _ rfl (setRow_heap _ _ _ _ _ _ hqr.out) Tryd.underlying84 rfl size_8) rfl ?_
                  exact ⟨by rw [← hres.out]; rfl, grown_setRow hg (.inr (by omega)) _⟩
end Go.Proofs.YtpeepiboocdnaaaDoor

namespace Go.Proofs.YtpeepiboocdnaaaDoor
open Go.RowKit

set_option maxRecDepth 100000 in
set_option maxHeartbeats 1000000 in
theorem constants_any (w : World) :
    Calls Tryd.prog 62 #[] w fun e w' => e = .returned (.slice (some ⟨w.heap.size, 0, none⟩) 64 64) ∧ RdAt w' (some ⟨w.heap.size, 0, none⟩) (keysL.map wv) ∧ w.grownBy w' none := by
  go_enter Tryd.func62, Tryd.ntmps62
  go_wp2
  go_ret
  exact ⟨rfl, rd_row (cs := keysL.map wv) (heap_alloc_new _ _), grown_alloc (grown_refl _ _) _⟩

theorem len_val8 (n i : Nat) : (8 * (n : Int)) / 2 ^ (8 * i) % 256 = ((UInt8.ofNat (8 * n / 2 ^ (8 * i))).toNat : Int) := by
  rw [Int.mul_comm]; exact len_val n i
theorem out_next (S : St) : ∀ k, k < 8 → (outB S).take (4 * (k + 1)) = (outB S).take (4 * k) ++ bytesW (S.cells.getD k 0)
  | 0, _ => rfl
  | 1, _ => rfl
  | 2, _ => rfl
  | 3, _ => rfl
  | 4, _ => rfl
  | 5, _ => rfl
  | 6, _ => rfl
  | 7, _ => rfl
  | k + 8, h => absurd h (by omega)
theorem byte_at (x : UInt32) : (x.toNat : Int) / 16777216 % 256 = ((UInt8.ofNat (x.toNat / 2 ^ 24)).toNat : Int) ∧ (x.toNat : Int) / 65536 % 256 = ((UInt8.ofNat (x.toNat / 2 ^ 16)).toNat : Int) ∧ (x.toNat : Int) / 256 % 256 = ((UInt8.ofNat (x.toNat / 2 ^ 8)).toNat : Int) ∧ (x.toNat : Int) % 256 = ((UInt8.ofNat (x.toNat / 2 ^ 0)).toNat : Int) := by
  refine ⟨?_, ?_, ?_, ?_⟩ <;> rw [UInt8.toNat_ofNat'] <;> omega

theorem index_st (S : St) : ∀ (k : Nat), k < 8 → ∀ w : World, (Instr.index 84 (.agg (S.cells.map wv).toArray) (.int .i64 (k : Int))).run Tryd.prog w = .ok (.int .u32 ((S.cells.getD k 0).toNat : Int)) w
  | 0, _, w => by kernel_rfl
  | 1, _, w => by kernel_rfl
  | 2, _, w => by kernel_rfl
  | 3, _, w => by kernel_rfl
  | 4, _, w => by kernel_rfl
  | 5, _, w => by kernel_rfl
  | 6, _, w => by kernel_rfl
  | 7, _, w => by kernel_rfl
  | k + 8, h, _ => absurd h (by omega)
theorem ref_grown {w w1 w2 : World} {o o' : Obj} {C : Array Value} (h : (w.alloc o).grownBy w1 none) (hw : Hid ((w1.alloc o').setRow w1.heap.size C = w2)) : Hid (w.grownBy w2 none) := by
  show w.grownBy w2 none
  rw [← hw.out]
  have h1 := grown_same (grown_alloc (grown_refl w none) o) h
  exact grown_setRow (grown_alloc h1 _) (.inr h1.size) _

set_option maxRecDepth 100000 in
set_option maxHeartbeats 4000000 in
theorem RSum_any (A : Option Addr) (l : List UInt8) (c : Nat) (w : World) (hr : RdB w A l) (hb : l.length ≤ 1000000000) :
    Calls Tryd.prog 55 #[.slice A l.length c] w fun e w' => e = .returned (.agg ((sumL l).map bv).toArray) ∧ w.grownBy w' none := by
  go_enter Tryd.func55, Tryd.ntmps55
  go_wp2_with (first
    | (go_at_call 62; refine (constants_any _).mono ?_; rintro e w1 ⟨rfl, hk1, hg1⟩)
    | (refine wpList_store_row rfl 84 _ _ rfl w1.heap.size _ rfl rfl 84 _ (heap_alloc_new _ _) size_8 rfl (wv_all start.cells) ?_; generalize hw2 : World.setRow _ _ _ = w2; have HW2 := Lib.hid hw2; clear hw2; have hg2 := ref_grown hg1 HW2)
    | (at_builtin; refine wpList_appB _ rfl _ _ rfl rfl (ho3.alloc _) (news := [0x80]) rfl rfl (rdB_new _ _ _ _ rfl) (by rw [List.length_append]; simp; omega) ?_; intro v4 w4 ho4 hgr4)
    | (at_builtin; refine wpList_appB _ rfl _ _ rfl rfl (ownB_new w2 #[] [] 0 rfl rfl (Nat.zero_le _)) (news := l) rfl rfl ((hr.kept hg2.out).alloc _) (by simp; omega) ?_; intro v3 w3 ho3 hgr3))
  have hs1 : Hid (w.heap.size + 2 ≤ w1.heap.size) := by
    have h2 := hk1.lt (by simp [keysL]) _ rfl
    show _ ≤ _
    simp at h2
    omega
  have hw12 : w1.grownBy w2 none := by
    rw [← HW2.out]
    exact grown_setRow (grown_alloc (grown_refl w1 none) _) (.inr (Nat.le_refl _)) _
  have hK2 : RdAt w2 (some ⟨w.heap.size + 1, 0, none⟩) (keysL.map wv) := by
    have := hk1.kept hw12
    simpa using this
  have hS2 : Hid (w2.heap[w1.heap.size]? = some (.cells (start.cells.map wv).toArray 84 (0, 0))) := by
    show _ = _
    rw [← HW2.out]
    exact setRow_heap _ _ _ _ _ _ (heap_alloc_new _ _)
  have hR2 : Hid (w2.heap[w.heap.size]? = some (.cells (rowH []) 44 (0, 0))) := by
    show _ = _
    rw [hw12.block _ (by have := hs1.out; omega) (by simp), hg1.block _ (by simp) (by simp)]
    exact heap_alloc_new _ _
  have hgr : Grew w2 w4 (.slice none 0 0) v4 := Grew.trans (Grew.fresh hgr3) (Grew.pre (grown_alloc (grown_refl _ _) _) hgr4)
  have hs2 : Hid (w1.heap.size < w2.heap.size) := (Array.getElem?_eq_some_iff.1 hS2.out).1
  clear hk1 hg1 HW2 hw12 hgr3 hgr4 ho3
  obtain ⟨n, hn⟩ : ∃ n, n = l.length := ⟨_, rfl⟩
  obtain ⟨z, hz⟩ : ∃ z, z = 64 * ((n + 8) / 64 + 1) - 9 - n := ⟨_, rfl⟩
  have HN := Lib.hid hn
  have HZ := Lib.hid hz
  have ho4' : OwnB w4 v4 (l ++ 0x80 :: List.replicate 0 0) := by simpa using ho4
  clear ho4 hn hz
  go_loopw [5] (fun x wr => ∃ j : Nat, j ≤ z ∧ OwnB wr x (l ++ 0x80 :: List.replicate j 0) ∧ Grew w2 wr (.slice none 0 0) x) (fun x _ => n + 1 + z - lenOf x)
  case atStart => exact ⟨0, Nat.zero_le _, ho4', hgr⟩
  case round =>
    clear ho4' hgr
    obtain ⟨j, hj, ho, hgr⟩ := hrel
    have hol := ho
    obtain ⟨A5, c5, rfl, hA5, hA5', hr5⟩ := ho.slice
    have hlen : (l ++ 0x80 :: List.replicate j (0 : UInt8)).length = n + 1 + j := by rw [HN.out]; simp; omega
    obtain ⟨p, hp⟩ : ∃ p, p = n + 1 + j := ⟨_, rfl⟩
    rw [← hp] at hlen
    rw [hlen] at hol hgr hA5 ⊢
    have HP := Lib.hid hp
    have HLn := Lib.hid hlen
    clear hlen hp
    by_cases hlt : j < z
    · have hm : ¬ p % 64 = 56 := by have := HP.out; have := HZ.out; omega
      have hmb : ((p % 64 : Nat) : Int) ≠ 56 := by omega
      go_wp2_with (at_builtin; refine wpList_appB (v := .slice A5 p c5) _ rfl _ _ rfl rfl (hol.alloc _) (news := [0]) rfl rfl (rdB_new _ _ _ _ rfl) (by have := HLn.out; have := HP.out; have := HZ.out; have := HN.out; simp at *; omega) ?_; intro v6 w6 ho6 hgr6)
      have ho6' : OwnB w6 v6 (l ++ 0x80 :: List.replicate (j + 1) 0) := by
        rw [List.replicate_succ']; simpa using ho6
      obtain ⟨A6, c6, rfl, _, _, _⟩ := ho6.slice
      refine ⟨⟨j + 1, by omega, ho6', hgr.trans (Grew.pre (grown_alloc (grown_refl _ _) _) hgr6)⟩, ?_⟩
      have h1 := HLn.out
      have h2 := HN.out
      have h3 := HP.out
      show n + 1 + z - (l ++ 128 :: List.replicate j 0 ++ [0]).length < n + 1 + z - p
      rw [List.length_append, h1, List.length_singleton]
      omega
    · have hjz : j = z := by omega
      subst hjz
      have hm : p % 64 = 56 := by have := HP.out; have := HZ.out; omega
      have hmb : ((p % 64 : Nat) : Int) = 56 := by omega
      have HM := Lib.hid hmb
      have hpb : ((p : Int) % 64 != 56) = false := by rw [bne_eq_false_iff_eq]; omega
      clear hm hmb
      have hpre : OwnB wr (.slice A5 p c5) (l ++ 0x80 :: List.replicate j 0 ++ (lenB n).take 0) := by simpa using hol
      have hpp : Hid (p ≤ 1000000100) := by show _ ≤ _; have := HP.out; have := HZ.out; have := HN.out; omega
      clear ho hol hr5
      go_wp2
      go_loopw [5, 6] (fun x i wz => ∃ k : Nat, k ≤ 8 ∧ i = .int .i64 (7 - (k : Int)) ∧ OwnB wz x (l ++ 0x80 :: List.replicate j 0 ++ (lenB n).take k) ∧ Grew w2 wz (.slice none 0 0) x) (fun _ i _ => (intOf i + 1).toNat)
      case atStart => exact ⟨0, by omega, rfl, hpre, hgr⟩
      case round =>
        clear hpre hgr
        obtain ⟨k, hk8, rfl, ho, hgr⟩ := hrel
        by_cases hlt : k < 8
        · obtain ⟨i, hi⟩ : ∃ i : Nat, i = 7 - k := ⟨_, rfl⟩
          have hik : (7 - (k : Int)) = (i : Int) := by omega
          rw [hik]
          have hv := len_val8 n i
          obtain ⟨y, hy⟩ : ∃ y, y = UInt8.ofNat (8 * n / 2 ^ (8 * i)) := ⟨_, rfl⟩
          rw [← hy] at hv
          have hnext : Hid ((lenB n).take (k + 1) = (lenB n).take k ++ [y]) := by
            show _ = _
            rw [List.take_succ_eq_append_getElem (by rw [lenB_len]; exact hlt), hy]
            congr 2
            simp only [lenB, List.getElem_map, List.getElem_range]
            rw [show 7 - k = i by omega]
          have hi7 : i ≤ 7 := by omega
          have hn9 : Hid (n ≤ 1000000000) := by show _ ≤ _; rw [HN.out]; exact hb
          have hn10 : n ≤ 1000000000 := hn9.out
          have hln := HN.out
          rw [← hln]
          have hkk : Hid (k + i = 7) := by show _ = _; omega
          clear hi hik hy hln
          go_wp2_with (at_builtin; refine wpList_appB (v := u5) _ rfl _ _ rfl rfl (ho.alloc _) (news := [y]) rfl rfl (rdB_new _ _ _ _ rfl) (by have h1 := HLn.out; have h2 := hpp.out; rw [List.length_append, h1, List.length_take, lenB_len, List.length_singleton]; omega) ?_; intro v6 w6 ho6 hgr6)
          refine ⟨⟨k + 1, by omega, by have := hkk.out; simp only [Value.int.injEq, true_and]; omega, ?_, hgr.trans (Grew.pre (grown_alloc (grown_refl _ _) _) hgr6)⟩, by have := hkk.out; simp [intOf]⟩
          rw [hnext.out, ← List.append_assoc]
          exact ho6
        · have hk8' : k = 8 := by omega
          subst hk8'
          obtain ⟨F, hF⟩ : ∃ F, F = l ++ padL n := ⟨_, rfl⟩
          have hFo : OwnB wr u5 F := by
            have e : l ++ 0x80 :: List.replicate j 0 ++ (lenB n).take 8 = F := by
              rw [hF, List.take_of_length_le (by rw [lenB_len]; omega)]
              have e2 : j = 64 * ((n + 8) / 64 + 1) - n - 9 := by have := HZ.out; omega
              rw [e2]; simp [padL]
            rw [← e]; exact ho
          clear ho
          obtain ⟨AF, cF, rfl, hcF, hcF', hrF⟩ := hFo.slice
          obtain ⟨B, hB⟩ : ∃ B, B = blocksN n := ⟨_, rfl⟩
          have hFl : F.length = 64 * B := by
            rw [hF, List.length_append, padL_len, hB, ← HN.out]; unfold blocksN; omega
          have hF0 : F ≠ [] := by
            intro e
            have : F.length = 0 := by rw [e]; rfl
            rw [hFl, hB] at this; unfold blocksN at this; omega
          have hnew := hgr.new
          have hgn := hgr.nil
          have hB9 : B ≤ 100000000 := by rw [hB]; have := HN.out; unfold blocksN; omega
          have hAF : Hid (∀ ad, AF = some ad → ad.block ≠ w1.heap.size) := by
            intro ad e
            subst e
            have := hs2.out
            have h3 := hnew ad.block rfl
            omega
          have hres : Hid (sumL l = outB (stirs start F B)) := by
            show _ = _
            rw [hF, hB, HN.out]; rfl
          have hSt : Hid (wr.heap[w1.heap.size]? = some (.cells ((stirs start F 0).cells.map wv).toArray 84 (0, 0))) := keep_of hS2.out hgn
          have hRt : Hid (wr.heap[w.heap.size]? = some (.cells (rowH []) 44 (0, 0))) := keep_of hR2.out hgn
          have hKt := hK2.kept hgn
          have hgt : w.grownBy wr none := grown_same hg2.out hgn
          have HF := Lib.hid hFl
          rw [hFl] at hFo hcF hnew hgr ⊢
          clear hF hFl hFo hnew hgr hgn hB
          have HAF0 := Lib.hid hF0
          clear hF0
          rw [show (7 - ((8 : Nat) : Int)) = -1 from rfl]
          go_wp2
          go_loopw [7] (fun i wz => ∃ t : Nat, t ≤ B ∧ i = .int .i64 (64 * (t : Int)) ∧ RdB wz AF F ∧ RdAt wz (some ⟨w.heap.size + 1, 0, none⟩) (keysL.map wv) ∧ Hid (wz.heap[w1.heap.size]? = some (.cells ((stirs start F t).cells.map wv).toArray 84 (0, 0))) ∧ Hid (wz.heap[w.heap.size]? = some (.cells (rowH []) 44 (0, 0))) ∧ w.grownBy wz none) (fun i _ => 64 * B - (intOf i).toNat)
          case atStart => exact ⟨0, by omega, rfl, hrF, hKt, hSt, hRt, hgt⟩
          case round =>
            clear hrF hKt hSt hRt hgt
            obtain ⟨t, htB, rfl, hrF, hKt, hSt, hRt, hgt⟩ := hrel
            by_cases hlt : t < B
            · obtain ⟨ad, rfl, hcell⟩ := hrF.get (k := 0) (by rw [HF.out]; omega)
              clear hcell
              obtain ⟨q, hq⟩ : ∃ q, q = 64 * t := ⟨_, rfl⟩
              obtain ⟨q2, hq2⟩ : ∃ q2, q2 = q + 64 := ⟨_, rfl⟩
              have hqi : (64 * (t : Int)) = (q : Int) := by omega
              rw [hqi]
              have hrb : RdB wr (some (ad.add q)) ((F.drop (64 * t)).take 64) := by
                have := rd_takeB (l := F.drop q) (by have h := hrF.drop q; rw [← List.map_drop] at h; exact h) 64
                rw [← hq]; exact this
              have hst := fun w' (h1 : RdB w' (some (ad.add q)) ((F.drop (64 * t)).take 64)) (h2 : RdAt w' (some ⟨w.heap.size + 1, 0, none⟩) (keysL.map wv)) => block_any (stirs start F t) (some (ad.add q)) ((F.drop (64 * t)).take 64) (cF - q) (some ⟨w.heap.size + 1, 0, none⟩) 64 w' h1 (by rw [List.length_take, List.length_drop, HF.out]; omega) h2
              obtain ⟨S, hS⟩ : ∃ S, S = stirs start F t := ⟨_, rfl⟩
              obtain ⟨T, hT⟩ : ∃ T, T = stir S ((F.drop (64 * t)).take 64) := ⟨_, rfl⟩
              rw [← hS, ← hT] at hst
              rw [← hS] at hSt
              have HT : Hid (T = stirs start F (t + 1)) := by show _ = _; rw [hT, hS]; rfl
              have HQ := Lib.hid hq
              have HQ2 := Lib.hid hq2
              have x1 : IntKind.i64.wrap ((q : Int) + 64) = (q2 : Int) := by rw [IntWalk.i64_in _ ⟨by omega, by omega⟩]; omega
              have x2 : (q : Int) ≤ (q2 : Int) := by omega
              have x3 : (q2 : Int) ≤ (cF : Int) := by omega
              have x4 : q2 - q = 64 := by omega
              have x5 : ¬ cF = q := by omega
              have x6 : (q : Int) < 64 * (B : Int) := by omega
              clear hT hS hq hq2 hqi
              go_wp2
              have hrb' : RdB wr.drew (some (ad.add q)) ((F.drop (64 * t)).take 64) := hrb
              have hKt' : RdAt wr.drew (some ⟨w.heap.size + 1, 0, none⟩) (keysL.map wv) := hKt
              have hrF' : RdB wr.drew (some ad) F := hrF
              have hRt' : Hid (wr.drew.heap[w.heap.size]? = some (.cells (rowH []) 44 (0, 0))) := hRt
              have hSt' : Hid (wr.drew.heap[w1.heap.size]? = some (.cells (S.cells.map wv).toArray 84 (0, 0))) := hSt
              have hg' : w.grownBy wr.drew none := grown_drew hgt
              have hd := load_8 wr.drew w1.heap.size S _ _ hSt
              refine wp_region_still_tail 7 (by kernel_rfl) (by kernel_rfl) ?_
              change wpStill _ _ wr.drew (fun a' => wpList _ _ _ _ a' wr.drew) _ _
              generalize wr.drew = w4 at hrb' hKt' hrF' hRt' hSt' hg' hd ⊢
              simp only [List.take_succ_cons, List.take_zero, List.drop_succ_cons, List.drop_zero]
              refine wpStill_load rfl _ _ rfl rfl hd ?_
              repeat still_step
              try refine wpStill_nil ?_
              clear x1 x4 x5
              go_wp2_with (first
                | (go_at_call 63; refine (hst _ hrb' hKt').mono ?_; rintro e w5 ⟨rfl, hg5⟩)
                | (refine wpList_store_row rfl 84 _ _ rfl w1.heap.size (T.cells.map wv).toArray rfl rfl 84 (S.cells.map wv).toArray (keep_of hSt'.out hg5) size_8 rfl (wv_all _) ?_; generalize hw6 : World.setRow _ _ _ = w6; have HW6 := Lib.hid hw6; clear hw6))
              have hw56 : w5.grownBy w6 (some w1.heap.size) := by
                rw [← HW6.out]
                exact grown_setRow (grown_refl _ _) (.inl rfl) _
              refine ⟨⟨t + 1, by omega, by have := HQ.out; simp only [Value.int.injEq, true_and]; omega, ?_, ?_, ?_, ?_, ?_⟩, by have := HQ.out; simp [intOf]; omega⟩
              · exact (hrF'.kept hg5).keep hw56 fun ad' e e2 => by injection e2 with e2; exact hAF.out ad' e e2
              · exact (hKt'.kept hg5).keep hw56 fun ad' e e2 => by injection e with e; subst e; injection e2 with e2; have := hs1.out; simp only at e2; omega
              · show _ = _
                rw [← HW6.out, ← HT.out]
                exact setRow_heap _ _ _ _ _ _ (keep_of hSt'.out hg5)
              · show _ = _
                rw [← HW6.out, setRow_other _ _ _ _ (by have := hs1.out; omega)]
                exact keep_of hRt'.out hg5
              · exact grown_trans (grown_same hg' hg5) hw56 (.inr fun g e => by injection e with e; have := hs1.out; omega)
            · have htB' : t = B := by omega
              subst htB'
              obtain ⟨S, hS⟩ : ∃ S, S = stirs start F t := ⟨_, rfl⟩
              rw [← hS] at hSt
              have hres' : Hid (sumL l = outB S) := by show _ = _; rw [hres.out, hS]
              clear hS hrF hKt
              go_wp2_with (first
                | (refine wpList_load_row rfl 84 _ rfl w1.heap.size rfl 84 (S.cells.map wv).toArray (0, 0) _ ((Below.heap_alloc wr _ _ (Array.getElem?_eq_some_iff.1 hSt.out).1).trans hSt.out) Tryd.underlying84 rfl size_8 ?_))
              have hR5 : Hid ((wr.alloc (.cells (rowH []) 44)).heap[w.heap.size]? = some (.cells (rowH []) 44 (0, 0))) := (Below.heap_alloc wr _ _ (Array.getElem?_eq_some_iff.1 hRt.out).1).trans hRt.out
              have hO5 : Hid ((wr.alloc (.cells (rowH []) 44)).heap[wr.heap.size]? = some (.cells (rowH ((outB S).take (4 * 0))) 44 (0, 0))) := heap_alloc_new _ _
              have hg5 : w.grownBy (wr.alloc (.cells (rowH []) 44)) none := grown_alloc hgt _
              have hgh : Hid (w.heap.size < wr.heap.size) := (Array.getElem?_eq_some_iff.1 hRt.out).1
              change Code.wp _ _ _ _ (wr.alloc (.cells (rowH []) 44))
              generalize wr.alloc (.cells (rowH []) 44) = w7 at hR5 hO5 hg5 ⊢
              generalize wr.heap.size = gh at hO5 hgh ⊢
              go_loopw [56] (fun i wz => ∃ k : Nat, k ≤ 8 ∧ i = .int .i64 k ∧ Hid (wz.heap[w.heap.size]? = some (.cells (rowH []) 44 (0, 0))) ∧ Hid (wz.heap[gh]? = some (.cells (rowH ((outB S).take (4 * k))) 44 (0, 0))) ∧ w.grownBy wz none) (fun i _ => 8 - (intOf i).toNat)
              case atStart => exact ⟨0, by omega, rfl, hR5, hO5, hg5⟩
              case round =>
                clear hR5 hO5 hg5
                obtain ⟨k, hk8, rfl, hR, hO, hg⟩ := hrel
                by_cases hlt : k < 8
                · have hol : ((outB S).take (4 * k)).length = 4 * k := by rw [List.length_take, outB_len]; omega
                  obtain ⟨P, hP⟩ : ∃ P, P = (outB S).take (4 * k) := ⟨_, rfl⟩
                  rw [← hP] at hO hol
                  have hnext := out_next S k hlt
                  rw [← hP] at hnext
                  have HNx := Lib.hid hnext
                  have hx0 := index_st S k hlt
                  obtain ⟨x, hx⟩ : ∃ x, x = S.cells.getD k 0 := ⟨_, rfl⟩
                  rw [← hx] at hx0
                  have HXX := Lib.hid hx
                  have HOL := Lib.hid hol
                  clear hx hnext hP hol
                  have hz : ∀ j, 4 * k ≤ j → j < 32 → wr.cell? ⟨gh, j, none⟩ = some (.int .u8 0) ∧ wr.frozen? ⟨gh, j, none⟩ = false := fun j h1 h2 => by
                    refine ⟨?_, frozen_of_row wr _ _ _ _ hO.out⟩
                    rw [cell_of_row wr _ _ _ _ _ hO.out]; exact rowH_zero _ _ (by rw [HOL.out]; exact h1) h2
                  obtain ⟨z0, f0⟩ := hz (4 * k) (by omega) (by omega)
                  obtain ⟨z1, f1⟩ := hz (4 * k + 1) (by omega) (by omega)
                  obtain ⟨z2, f2⟩ := hz (4 * k + 2) (by omega) (by omega)
                  obtain ⟨z3, f3⟩ := hz (4 * k + 3) (by omega) (by omega)
                  obtain ⟨r1, r2, r3, r4⟩ := byte_at x
                  obtain ⟨y0, hy0⟩ : ∃ y, y = UInt8.ofNat (x.toNat / 2 ^ 24) := ⟨_, rfl⟩
                  obtain ⟨y1, hy1⟩ : ∃ y, y = UInt8.ofNat (x.toNat / 2 ^ 16) := ⟨_, rfl⟩
                  obtain ⟨y2, hy2⟩ : ∃ y, y = UInt8.ofNat (x.toNat / 2 ^ 8) := ⟨_, rfl⟩
                  obtain ⟨y3, hy3⟩ : ∃ y, y = UInt8.ofNat (x.toNat / 2 ^ 0) := ⟨_, rfl⟩
                  rw [← hy0] at r1
                  rw [← hy1] at r2
                  rw [← hy2] at r3
                  rw [← hy3] at r4
                  have HY : Hid ((outB S).take (4 * (k + 1)) = P ++ [y0] ++ [y1] ++ [y2] ++ [y3]) := by
                    show _ = _
                    rw [HNx.out, ← HXX.out, hy0, hy1, hy2, hy3]
                    simp [bytesW]
                  clear hz hy0 hy1 hy2 hy3
                  go_wp2
                  have e1 := rowH_store (x := y0) hO.out HOL.out (by omega)
                  have e2 := rowH_store (x := y1) e1 (show _ = 4 * k + 1 by rw [List.length_append, HOL.out]; rfl) (by omega)
                  have e3 := rowH_store (x := y2) e2 (show _ = 4 * k + 2 by rw [List.length_append, List.length_append, HOL.out]; rfl) (by omega)
                  have e4 := rowH_store (x := y3) e3 (show _ = 4 * k + 3 by rw [List.length_append, List.length_append, List.length_append, HOL.out]; rfl) (by omega)
                  have hne : w.heap.size ≠ gh := by have := hgh.out; omega
                  refine ⟨⟨k + 1, by omega, by go_num, ?_, ?_, ?_⟩, by simp [intOf]; omega⟩
                  · show _ = _
                    rw [Below.heap_setCell _ _ _ _ hne, Below.heap_setCell _ _ _ _ hne, Below.heap_setCell _ _ _ _ hne, Below.heap_setCell _ _ _ _ hne]
                    exact hR.out
                  · show _ = _
                    rw [HY.out]
                    exact e4
                  · have hle : w.heap.size ≤ gh := by have := hgh.out; omega
                    exact grown_set (grown_set (grown_set (grown_set hg (.inr hle) _) (.inr hle) _) (.inr hle) _) (.inr hle) _
                · have hk8' : k = 8 := by omega
                  subst hk8'
                  obtain ⟨X, hX⟩ : ∃ X, X = outB S := ⟨_, rfl⟩
                  have hXl : Hid (X.length = 32) := by rw [hX]; exact outB_len S
                  have hO' := hO.out
                  rw [← hX, List.take_of_length_le (by rw [hXl.out]; omega), rowH_full hXl.out] at hO'
                  have HO := Lib.hid hO'
                  have HX := Lib.hid hX
                  have HS : Hid ((Tryd.prog.info? 44).map (·.size) = some (X.map bv).toArray.size) := by rw [List.size_toArray, List.length_map, hXl.out]; exact size_hash
                  clear hX hO'
                  go_wp2_with (first
                    | (refine wpList_load_row rfl 44 _ rfl gh rfl 44 (X.map bv).toArray (0, 0) _ HO.out Tryd.underlying44 rfl HS.out ?_)
                    | (refine wpList_store_row rfl 44 _ _ rfl w.heap.size (X.map bv).toArray rfl rfl 44 (rowH []) hR.out HS.out (by rw [rowH_size _ (by simp), List.size_toArray, List.length_map, hXl.out]) (bv_all' _) ?_))
                  refine bodyPost_ret (results_cell_row rfl _ _ w.heap.size 44 (X.map bv).toArray (0, 0) _ rfl (setRow_heap _ _ _ _ _ _ hR.out) Tryd.underlying44 rfl HS.out) rfl ?_
                  exact ⟨by rw [hres'.out, HX.out], grown_setRow hg (.inr (Nat.le_refl _)) _⟩
end Go.Proofs.YtpeepiboocdnaaaDoor

namespace Go.Proofs.YtpeepiboocdnaaaDoor
open Go.RowKit

/-- A part: where it lies, what it reads as, its room. -/
abbrev Part := Option Addr × List UInt8 × Nat
def pv (p : Part) : Value := .slice p.1 p.2.1.length p.2.2
def catP (ps : List Part) : List UInt8 := (ps.map fun p => p.2.1).flatten
/-- Parts as they can be read. -/
def RdP (w : World) (A : Option Addr) (ps : List Part) : Prop := RdAt w A (ps.map pv) ∧ ∀ p ∈ ps, RdB w p.1 p.2.1
theorem RdP.kept {w w' : World} {A : Option Addr} {ps : List Part} (h : RdP w A ps) (hg : w.grownBy w' none) : RdP w' A ps :=
  ⟨h.1.kept hg, fun p hp => (h.2 p hp).kept hg⟩
theorem RdP.get {w : World} {A : Option Addr} {ps : List Part} (h : RdP w A ps) {k : Nat} (hk : k < ps.length) :
    ∃ ad, A = some ad ∧ w.cell? (ad.add k) = some (.slice ps[k].1 ps[k].2.1.length ps[k].2.2) ∧ RdB w ps[k].1 ps[k].2.1 := by
  obtain ⟨ad, e, hc⟩ := RdAt.get h.1 (k := k) (by simpa using hk)
  exact ⟨ad, e, by simpa [pv] using hc, h.2 _ (List.getElem_mem hk)⟩
theorem catP_take {ps : List Part} {k : Nat} (hk : k < ps.length) : catP (ps.take (k + 1)) = catP (ps.take k) ++ ps[k].2.1 := by
  unfold catP
  rw [List.take_succ_eq_append_getElem hk, List.map_append, List.flatten_append, List.map_singleton, List.flatten_singleton]
theorem catP_le {ps : List Part} (k : Nat) : (catP (ps.take k)).length ≤ (catP ps).length := by
  have : catP ps = catP (ps.take k) ++ catP (ps.drop k) := by
    unfold catP
    rw [← List.flatten_append, ← List.map_append, List.take_append_drop]
  rw [this, List.length_append]
  omega

theorem ownB_of {w : World} {g n cap : Nat} {cs : Array Value} {l : List UInt8} (hg : w.heap[g]? = some (.cells cs 5 (0, 0))) (hl : l.length = n) (h : cs.toList.take n = l.map bv) (hs : cs.size = cap) (hn : n ≤ cap) (hm : cap ≤ maxLen) :
    OwnB w (.slice (some ⟨g, 0, none⟩) n cap) l := by
  have hlt : g < w.heap.size := (Array.getElem?_eq_some_iff.1 hg).1
  refine ⟨g, by omega, by simp, .inr ⟨g, cap, cs, by rw [List.length_map, hl], Nat.le_refl _, hg, by rw [List.length_map]; omega, hm, by omega, ?_⟩⟩
  rw [Nat.mul_one, List.length_map, hl]
  exact h
theorem made_bytes (n : Nat) : madeCells (Value.int .u8 0).cells (n * 1) = (List.replicate n (Value.int .u8 0)).toArray := by
  apply Array.ext'
  apply List.ext_getElem
  · simp [madeCells]
  · intro i h1 h2
    simp [madeCells, Value.cells, Nat.mod_one]
theorem make_tag (n : Nat) (h0 : 1 ≤ n) (h : n ≤ 1000000100) (w : World) : (Instr.makeSlice 61 (.int .i64 1) (.int .i64 (n : Int))).run Tryd.prog w = .ok (.slice (some ⟨w.heap.size, 0, none⟩) 1 n) (w.alloc (.cells (List.replicate n (Value.int .u8 0)).toArray 5)) := by
  obtain ⟨i, hi, hz, hs, hb⟩ := info_parts info_u8
  have := run_make (P := Tryd.prog) w 61 5 i (.int .u8 0) Tryd.underlying61 hi hz .i64 .i64 1 (n : Int) (by omega) (by omega) (by rw [hb]; omega) (by omega)
  rw [hs, Int.toNat_natCast, made_bytes] at this
  exact this

set_option maxRecDepth 100000 in
set_option maxHeartbeats 2000000 in
theorem Tagged_any (t : UInt8) (A : Option Addr) (ps : List Part) (c : Nat) (w : World) (hk : LaidK w) (hs : LaidS w) (hA : RdP w A ps) (hb : (catP ps).length ≤ 100000000) (hn : ps.length ≤ 100000000) :
    Calls Tryd.prog 42 #[.int .u8 (t.toNat : Int), .slice A ps.length c] w fun e w' => e = .returned (.agg ((tagL t (catP ps)).map bv).toArray) ∧ w.grownBy w' none := by
  go_enter Tryd.func42, Tryd.ntmps42
  go_wp2
  go_loopw [5, 13] (fun x i wr => ∃ k : Nat, k ≤ ps.length ∧ i = .int .i64 k ∧ x = .int .i64 ((1 + (catP (ps.take k)).length : Nat) : Int) ∧ Hid (wr.heap[w.heap.size]? = some (.cells (rowH []) 44 (0, 0))) ∧ w.grownBy wr none) (fun _ i _ => ps.length - (intOf i).toNat)
  case atStart => exact ⟨0, by omega, rfl, rfl, heap_alloc_new _ _, grown_alloc (grown_refl _ _) _⟩
  case round =>
    obtain ⟨k, hkl, rfl, rfl, hR, hg⟩ := hrel
    by_cases hlt : k < ps.length
    · obtain ⟨ad, rfl, hc, hrd⟩ := (hA.kept hg).get hlt
      have hle := catP_le (ps := ps) (k + 1)
      have hnx := catP_take hlt
      obtain ⟨q, hq⟩ : ∃ q, q = 1 + (catP (ps.take k)).length := ⟨_, rfl⟩
      obtain ⟨m, hm⟩ : ∃ m, m = ps[k].2.1.length := ⟨_, rfl⟩
      rw [← hq]
      rw [← hm] at hc
      have hqm : q + m ≤ 100000001 := by
        have := congrArg List.length hnx
        rw [List.length_append] at this
        omega
      have HQ : Hid (1 + (catP (ps.take (k + 1))).length = q + m) := by
        show _ = _
        rw [hnx, List.length_append]; omega
      clear hnx hle hq hm
      go_wp2
      go_roundw
      case rel => exact ⟨k + 1, by omega, by go_num, by rw [HQ.out]; go_num, hR, hg⟩
      case measure => simp [intOf]; omega
    · have hkk : k = ps.length := by omega
      subst hkk
      obtain ⟨q, hq⟩ : ∃ q, q = 1 + (catP ps).length := ⟨_, rfl⟩
      rw [List.take_length, ← hq]
      have hmk := make_tag q (by omega) (by omega) wr
      have HQ := Lib.hid hq
      obtain ⟨C, hC⟩ : ∃ C, C = List.replicate q (Value.int .u8 0) := ⟨_, rfl⟩
      rw [← hC] at hmk
      have HC := Lib.hid hC
      have hq1 : 1 ≤ q := by omega
      have z0 : (wr.alloc (.cells C.toArray 5)).cell? ⟨wr.heap.size, 0, none⟩ = some (.int .u8 0) := by
        rw [cell_of_row _ _ _ _ _ _ (heap_alloc_new _ _), hC]
        obtain ⟨q', rfl⟩ : ∃ q', q = q' + 1 := ⟨q - 1, by omega⟩
        simp [List.replicate_succ]
      have f0 : (wr.alloc (.cells C.toArray 5)).frozen? ⟨wr.heap.size, 0, none⟩ = false := frozen_of_row _ _ _ _ _ (heap_alloc_new _ _)
      clear hq hC
      go_wp2
      have ho : OwnB (wr.alloc (.cells (C.set 0 (.int .u8 (t.toNat : Int))).toArray 5)) (.slice (some ⟨wr.heap.size, 0, none⟩) 1 q) (t :: catP (ps.take 0)) := by
        refine ownB_of (heap_alloc_new _ _) rfl ?_ (by rw [HC.out]; simp) hq1 (by unfold maxLen; have := HQ.out; omega)
        obtain ⟨q', hq'⟩ : ∃ q', q = q' + 1 := ⟨q - 1, by omega⟩
        rw [HC.out, hq']
        simp [List.replicate_succ, bv, catP]
      have hgr : Grew wr (wr.alloc (.cells (C.set 0 (.int .u8 (t.toNat : Int))).toArray 5)) (.slice none 0 0) (.slice (some ⟨wr.heap.size, 0, none⟩) 1 q) :=
        ⟨grown_alloc (grown_refl _ _) _, .inr ⟨_, rfl, Nat.le_refl _⟩⟩
      clear hmk z0 f0 HC
      generalize wr.alloc (.cells (C.set 0 (.int .u8 (t.toNat : Int))).toArray 5) = w2 at ho hgr ⊢
      obtain ⟨w1, hw1⟩ : ∃ w1, w1 = wr := ⟨_, rfl⟩
      rw [← hw1] at hR hg hgr ho ⊢
      clear hw1
      go_loopw [8, 29] (fun x i wz => ∃ k : Nat, k ≤ ps.length ∧ i = .int .i64 k ∧ OwnB wz x (t :: catP (ps.take k)) ∧ Grew w1 wz (.slice none 0 0) x) (fun _ i _ => ps.length - (intOf i).toNat)
      case atStart => exact ⟨0, by omega, rfl, ho, hgr⟩
      case round =>
        clear ho hgr
        obtain ⟨k, hkl, rfl, ho, hgr⟩ := hrel
        have hgn := hgr.nil
        have hgw := grown_same hg hgn
        by_cases hlt : k < ps.length
        · obtain ⟨ad, rfl, hc, hrd⟩ := (hA.kept hgw).get hlt
          have hle := catP_le (ps := ps) (k + 1)
          have hnx := catP_take hlt
          obtain ⟨L, hL⟩ : ∃ L, L = ps[k].2.1 := ⟨_, rfl⟩
          rw [← hL] at hc hrd hnx
          have hlen : Hid ((t :: catP (ps.take k)).length + L.length ≤ 100000001) := by
            show _ ≤ _
            have := congrArg List.length hnx
            rw [List.length_append] at this
            rw [List.length_cons]
            omega
          have HNX := Lib.hid hnx
          clear hnx hle hL
          go_wp2_with (at_builtin; refine wpList_appB (v := u8) _ rfl _ _ rfl rfl ho (news := L) rfl rfl hrd (by have := hlen.out; omega) ?_; intro v6 w6 ho6 hgr6)
          go_roundw
          case rel =>
            refine ⟨k + 1, by omega, by go_num, ?_, hgr.trans hgr6⟩
            rw [HNX.out]
            exact ho6
          case measure => simp [intOf]; omega
        · have hkk : k = ps.length := by omega
          subst hkk
          rw [List.take_length] at ho
          obtain ⟨A5, c5, rfl, hc5, hm5, hr5⟩ := ho.slice
          have hsum := fun w' (h1 : LaidK w') (h2 : LaidS w') (h3 : RdB w' A5 (t :: catP ps)) => Sum_any A5 (t :: catP ps) c5 w' h1 h2 h3 hc5 hm5 (by rw [List.length_cons]; omega)
          obtain ⟨X, hX⟩ : ∃ X, X = sumL (t :: catP ps) := ⟨_, rfl⟩
          rw [← hX] at hsum
          have HX : Hid (X = tagL t (catP ps)) := by show _ = _; rw [hX]; rfl
          have hXl : Hid (X.length = 32) := by rw [hX]; exact sumL_len _
          have HS : Hid ((Tryd.prog.info? 44).map (·.size) = some (X.map bv).toArray.size) := by rw [List.size_toArray, List.length_map, hXl.out]; exact size_hash
          clear hX
          go_wp2_with (first
            | (go_at_call 52; refine (hsum _ (hk.kept hgw) (hs.kept hgw) hr5).mono ?_; rintro e w6 ⟨rfl, hg6⟩)
            | (refine wpList_store_row rfl 44 _ _ rfl w.heap.size (X.map bv).toArray rfl rfl 44 (rowH []) (keep_of (keep_of hR.out hgn) hg6) HS.out (by rw [rowH_size _ (by simp), List.size_toArray, List.length_map, hXl.out]) (bv_all' _) ?_))
          refine bodyPost_ret (results_cell_row rfl _ _ w.heap.size 44 (X.map bv).toArray (0, 0) _ rfl (setRow_heap _ _ _ _ _ _ (keep_of (keep_of hR.out hgn) hg6)) Tryd.underlying44 rfl HS.out) rfl ?_
          exact ⟨by rw [HX.out], grown_setRow (grown_same hgw hg6) (.inr (Nat.le_refl _)) _⟩

set_option maxRecDepth 100000 in
set_option maxHeartbeats 2000000 in
theorem RTagged_any (t : UInt8) (A : Option Addr) (ps : List Part) (c : Nat) (w : World) (hA : RdP w A ps) (hb : (catP ps).length ≤ 100000000) (hn : ps.length ≤ 100000000) :
    Calls Tryd.prog 48 #[.int .u8 (t.toNat : Int), .slice A ps.length c] w fun e w' => e = .returned (.agg ((tagL t (catP ps)).map bv).toArray) ∧ w.grownBy w' none := by
  go_enter Tryd.func48, Tryd.ntmps48
  go_wp2
  have hR : Hid ((w.alloc (.cells (rowH []) 44)).heap[w.heap.size]? = some (.cells (rowH []) 44 (0, 0))) := heap_alloc_new _ _
  have hg : w.grownBy (w.alloc (.cells (rowH []) 44)) none := grown_alloc (grown_refl _ _) _
  have hs1 : (w.alloc (.cells (rowH []) 44)).heap.size = w.heap.size + 1 := by simp
  have ho : OwnB ((w.alloc (.cells (rowH []) 44)).alloc (.cells #[Value.int .u8 (t.toNat : Int)] 5)) (.slice (some ⟨w.heap.size + 1, 0, none⟩) 1 1) (t :: catP (ps.take 0)) := by
    rw [← hs1]
    exact ownB_new _ _ _ _ rfl rfl (by unfold maxLen; omega)
  have hgr : Grew (w.alloc (.cells (rowH []) 44)) ((w.alloc (.cells (rowH []) 44)).alloc (.cells #[Value.int .u8 (t.toNat : Int)] 5)) (.slice none 0 0) (.slice (some ⟨w.heap.size + 1, 0, none⟩) 1 1) :=
    ⟨grown_alloc (grown_refl _ _) _, .inr ⟨_, rfl, by rw [hs1]; exact Nat.le_refl _⟩⟩
  clear hs1
  change Code.wp _ _ _ _ ((w.alloc (.cells (rowH []) 44)).alloc (.cells #[Value.int .u8 (t.toNat : Int)] 5))
  generalize (w.alloc (.cells (rowH []) 44)).alloc (.cells #[Value.int .u8 (t.toNat : Int)] 5) = w2 at ho hgr ⊢
  generalize w.alloc (.cells (rowH []) 44) = w1 at hR hg hgr
  go_loopw [5, 12] (fun x i wz => ∃ k : Nat, k ≤ ps.length ∧ i = .int .i64 k ∧ OwnB wz x (t :: catP (ps.take k)) ∧ Grew w1 wz (.slice none 0 0) x) (fun _ i _ => ps.length - (intOf i).toNat)
  case atStart => exact ⟨0, by omega, rfl, ho, hgr⟩
  case round =>
    clear ho hgr
    obtain ⟨k, hkl, rfl, ho, hgr⟩ := hrel
    have hgn := hgr.nil
    have hgw := grown_same hg hgn
    by_cases hlt : k < ps.length
    · obtain ⟨ad, rfl, hc, hrd⟩ := (hA.kept hgw).get hlt
      have hle := catP_le (ps := ps) (k + 1)
      have hnx := catP_take hlt
      obtain ⟨L, hL⟩ : ∃ L, L = ps[k].2.1 := ⟨_, rfl⟩
      rw [← hL] at hc hrd hnx
      have hlen : Hid ((t :: catP (ps.take k)).length + L.length ≤ 100000001) := by
        show _ ≤ _
        have := congrArg List.length hnx
        rw [List.length_append] at this
        rw [List.length_cons]
        omega
      have HNX := Lib.hid hnx
      clear hnx hle hL
      go_wp2_with (at_builtin; refine wpList_appB (v := u5) _ rfl _ _ rfl rfl ho (news := L) rfl rfl hrd (by have := hlen.out; omega) ?_; intro v6 w6 ho6 hgr6)
      go_roundw
      case rel =>
        refine ⟨k + 1, by omega, by go_num, ?_, hgr.trans hgr6⟩
        rw [HNX.out]
        exact ho6
      case measure => simp [intOf]; omega
    · have hkk : k = ps.length := by omega
      subst hkk
      rw [List.take_length] at ho
      obtain ⟨A5, c5, rfl, hc5, hm5, hr5⟩ := ho.slice
      have hsum := fun w' (h3 : RdB w' A5 (t :: catP ps)) => RSum_any A5 (t :: catP ps) c5 w' h3 (by rw [List.length_cons]; omega)
      obtain ⟨X, hX⟩ : ∃ X, X = sumL (t :: catP ps) := ⟨_, rfl⟩
      rw [← hX] at hsum
      have HX : Hid (X = tagL t (catP ps)) := by show _ = _; rw [hX]; rfl
      have hXl : Hid (X.length = 32) := by rw [hX]; exact sumL_len _
      have HS : Hid ((Tryd.prog.info? 44).map (·.size) = some (X.map bv).toArray.size) := by rw [List.size_toArray, List.length_map, hXl.out]; exact size_hash
      clear hX
      go_wp2_with (first
        | (go_at_call 55; refine (hsum _ hr5).mono ?_; rintro e w6 ⟨rfl, hg6⟩)
        | (refine wpList_store_row rfl 44 _ _ rfl w.heap.size (X.map bv).toArray rfl rfl 44 (rowH []) (keep_of (keep_of hR.out hgn) hg6) HS.out (by rw [rowH_size _ (by simp), List.size_toArray, List.length_map, hXl.out]) (bv_all' _) ?_))
      refine bodyPost_ret (results_cell_row rfl _ _ w.heap.size 44 (X.map bv).toArray (0, 0) _ rfl (setRow_heap _ _ _ _ _ _ (keep_of (keep_of hR.out hgn) hg6)) Tryd.underlying44 rfl HS.out) rfl ?_
      exact ⟨by rw [HX.out], grown_setRow (grown_same hgw hg6) (.inr (Nat.le_refl _)) _⟩

end Go.Proofs.YtpeepiboocdnaaaDoor

namespace Go.Proofs.YtpeepiboocdnaaaDoor
open Go.RowKit

section
variable {P : Program} {o : Oper} {a : Act} {w : World} {K : Act → World → Prop} {Q : Exit → Act → World → Prop}
theorem wp_move {x : Operand} (ho : o.op = .move x) (h : K (a.put o.dst (a.eval x)) w) : Oper.wp P o a w K Q := by
  unfold Oper.wp execOp; simp only [ho]; exact h
theorem wp_assign {x : Operand} (ho : o.op = .assign x) (h : K (a.put o.dst (a.eval x)) w) : Oper.wp P o a w K Q := by
  unfold Oper.wp execOp; simp only [ho]; exact h
theorem wp_lit {t : TypeId} {n : Nat} {parts : Array (Nat × Operand)} {v : Value} {w' : World} (ho : o.op = .buildSlice t n parts)
    (hrun : (Instr.buildSlice t n (parts.map fun (i, x) => (i, a.eval x))).run P w = .ok v w') (h : K (a.put o.dst v) w') : Oper.wp P o a w K Q := by
  unfold Oper.wp execOp; simp only [ho, Sem.run_bind, hrun, Result.andThen_ok, Sem.run_pure]; exact h
theorem wp_lit1 {t : TypeId} {x : Operand} {u v : Value} {w' : World} (ho : o.op = .buildSlice t 1 #[(0, x)]) (hu : a.eval x = u)
    (hrun : (Instr.buildSlice t 1 #[(0, u)]).run P w = .ok v w') (h : K (a.put o.dst v) w') : Oper.wp P o a w K Q :=
  wp_lit ho (by simpa [hu] using hrun) h
theorem enter_run {f : FuncId} {fn : Func} (hf : P.funcs[f]? = some fn) (hn : (fn.name == "runtime.NumGoroutine") = false) (hb : fn.body.isNone = false) (args : Array Value) (w : World) :
    (callFunc f args).run P w = .ok (.enter f args) w := by
  have hn' : ¬ fn.name = "runtime.NumGoroutine" := by simpa using hn
  have hb' : ¬ fn.body = none := by intro e; rw [e] at hb; cases hb
  simp [callFunc, run_program, hf, hn', hb']
theorem wp_call {f : FuncId} {fn : Func} {xs : Array Operand} {ts : Array TypeId} {args : Array Value} (ho : o.op = .call { callee := .value (.func f), args := xs, argTypes := ts })
    (hf : P.funcs[f]? = some fn) (hn : (fn.name == "runtime.NumGoroutine") = false) (hb : fn.body.isNone = false) (hx : xs.map a.eval = args)
    (h : Calls P f args w fun e w' => ∃ v, e = .returned v ∧ K (a.put o.dst v) w') : Oper.wp P o a w K Q := by
  obtain ⟨dst, op, ty, pos, after, guard⟩ := o
  simp only at ho
  subst ho
  unfold Oper.wp
  rw [execOp_call_go]
  have e : (#[] ++ xs.map a.eval ++ #[] : Array Value) = args := by simp [hx]
  rw [e, enter_run hf hn hb, Oper.upon_enter]
  exact h.mono fun e' w' ⟨v, he, hk⟩ => by subst he; exact hk
end

/-- 'append' on bytes. -/
theorem wp_appB {o : Oper} {a : Act} {w : World} {K : Act → World → Prop} {Q : Exit → Act → World → Prop} {s x : Operand}
    (ho : o.op = .call { callee := .builtin .append, args := #[s, x], argTypes := #[61, 61] })
    {v : Value} {l : List UInt8} (hv : a.eval s = v) (hown : OwnB w v l) {A : Option Addr} {m c : Nat} {news : List UInt8} (hx : a.eval x = .slice A m c) (hm : m = news.length) (hr : RdB w A news)
    (hb : l.length + news.length ≤ 140737488355328)
    (h : ∀ v' w', OwnB w' v' (l ++ news) → Grew w w' v v' → K (a.put o.dst v') w') : Oper.wp Tryd.prog o a w K Q := by
  obtain ⟨i, hi, hz, hs, hby⟩ := info_parts info_u8
  obtain ⟨base, hbase, hown⟩ := hown
  subst hm
  obtain ⟨v', w', hrun, h2, h3⟩ := run_append_rd (P := Tryd.prog) w (ty := o.type) (c := c) (news := news.map bv) Tryd.underlying61 hi hz hs hby rfl hown hr (bv_one _) (by simpa using hb) (by unfold maxLen; simp; omega) hbase
  rw [List.length_map] at hrun
  unfold Oper.wp execOp
  simp only [ho, resolve, invoke, builtin, Sem.run_bind, Sem.run_pure, Result.andThen_ok, List.map_toArray, List.map_cons, List.map_nil, hv, hx, hrun]
  refine h v' w' ⟨base, Nat.le_trans hbase h3.1.size, ?_⟩ h3
  rw [List.map_append]
  exact h2
/-- A hash's variable, loaded whole. -/
theorem wp_loadH {o : Oper} {a : Act} {w : World} {K : Act → World → Prop} {Q : Exit → Act → World → Prop} {x : Operand} (ho : o.op = .load 44 x)
    {g : Nat} (hx : a.eval x = .pointer (some ⟨g, 0, none⟩)) {y : List UInt8} (hy : y.length = 32) {t : TypeId} {fr : Nat × Nat} (hg : w.heap[g]? = some (.cells (y.map bv).toArray t fr))
    (h : K (a.put o.dst (.agg (y.map bv).toArray)) w) : Oper.wp Tryd.prog o a w K Q :=
  wp_load_row 44 x ho g hx t (y.map bv).toArray fr _ hg Tryd.underlying44 rfl (by rw [List.size_toArray, List.length_map, hy]; exact size_hash) h

/-! Facts that last. -/
theorem lasts_val (x : Value) : Lasts fun v _ => v = x := fun _ _ _ _ h _ _ => h
theorem lasts_own (l : List UInt8) : Lasts fun v w => OwnB w v l := fun _ _ _ _ h hg hne => h.keep hg hne
theorem lasts_rd (n : Nat) (xs : List Value) : Lasts fun v w => ∃ A c, v = .slice A n c ∧ RdAt w A xs := by
  rintro v w w' row ⟨A, c, rfl, h⟩ hg hne
  refine ⟨A, c, rfl, h.keep hg fun ad e er => ?_⟩
  subst e
  rcases hne with h1 | h1
  · cases h1
  · exact h1 er
section
variable {ops : Array Oper} {die : Nat → Nat} {own : Nat → Bool} {F : Nat → Value → World → Prop} {a0 : Act} {W : World}
variable {P : Program}
/-- The same, each step's end told by what it leaves. -/
theorem wp_region_go2 {N : Nat} {S : Nat → Bool} {id : Nat} {Q : Exit → Act → World → Prop} (hm : P.follows .mixedOrders = true) (hok : regionOk ops N S = true) (hN : N ≤ a0.tmps.size) (hF : ∀ k, Lasts (F k))
    (hstep : ∀ (i : Nat) (o : Oper) (L : Array Bool) (a : Act) (w : World) (K : Act → World → Prop), i < ops.size → ops[i]? = some o → W.grownBy w none → L.getD i false = false → (∀ k, ops.size ≤ k → L.getD k false = false) →
      (∀ j, (o.after.toList.any fun e => Region.binds .any e && e.on == j) = true → L.getD j false = true) →
      (∀ t, S t = false → a.eval (.tmp t) = a0.eval (.tmp t)) →
      (∀ k, k < ops.size → liveAt die L k → F k (a.eval (.tmp (slotOf ops k))) w) →
      (∀ (v : Value) (w' : World), w.grownBy w' none → F i v w' → (∀ g, v.ownBlock = some g → g < w'.heap.size) → Fresh own W i w none v → K (a.put o.dst v) w') →
      (∀ (k : Nat) (v : Value) (w' : World), k < ops.size → liveAt die L k → own k = true → die k = i → w.grownBy w' (a.eval (.tmp (slotOf ops k))).ownBlock →
        F i v w' → (∀ g, v.ownBlock = some g → g < w'.heap.size) → Fresh own W i w (a.eval (.tmp (slotOf ops k))).ownBlock v → K (a.put o.dst v) w') →
      Region.wanted o (yielded ops a.tmps) = true ∧ Oper.wp P o a w K Q)
    (hend : ∀ (a : Act) (w : World), W.grownBy w none → (∀ k, k < ops.size → ops.size ≤ die k → F k (a.eval (.tmp (slotOf ops k))) w ∧ (own k = true → ∀ g, (a.eval (.tmp (slotOf ops k))).ownBlock = some g → W.heap.size ≤ g)) →
      a = { tmps := (fill S (fun t => a.tmps.getD t undef) 0 a0.tmps.toList).toArray, defers := a0.defers } → Q .normal a w) :
    (Code.region id ops true).wp P Q a0 W := by
  refine wp_region_rep (die := die) (own := own) (F := F) hm (regionOk_back hok) rep_start ?_ ?_
  · intro i o L a w K hi ho hrep hLi hpre hK
    have hout : ∀ k : Nat, ops.size ≤ k → L.getD k false = false := by
      intro k hk
      have hk' : ¬ k < L.size := by rw [hrep.size]; omega
      simp [Array.getD, hk']
    refine hstep i o L a w K hi ho hrep.old hLi hout ?_ ?_ ?_ ?_ ?_
    · intro j hj
      obtain ⟨n, hn, hb, rfl⟩ : ∃ (n : Nat) (h : n < o.after.size), Region.binds Region.Mode.any o.after[n] = true ∧ o.after[n].on = j := by simpa using hj
      exact hpre _ (Array.getElem_mem hn) hb
    · intro t ht
      exact hrep.frame t fun k hk e => by
        have := (regionOk_slot hok hk).2.1
        rw [e, ht] at this
        cases this
    · intro k hk hl
      exact (hrep.item k hk hl).1
    · intro v w' hg hv hlt hnew
      exact hK _ _ (rep_go hok hN hF hrep hi ho hg (.inl rfl) hv hlt hnew)
    · intro k v w' hk hl hok' hd hg hv hlt hnew
      exact hK _ _ (rep_go hok hN hF hrep hi ho hg (.inr ⟨k, hk, hl, hok', hd, rfl⟩) hv hlt hnew)
  · intro L a w hl hrep
    refine hend a w hrep.old (fun k hk hd => ?_) (rep_frame hok hrep)
    have hlive : liveAt die L k := ⟨hl k hk, by
      have : ¬ die k < L.size := by rw [hrep.size]; omega
      simp [Array.getD, this]⟩
    exact ⟨(hrep.item k hk hlive).1, (hrep.item k hk hlive).2.2⟩
end

theorem wanted_of {ops : Array Oper} {o : Oper} {a : Act} {j s : Nat} (hg : o.guard = some (j, true)) (hd : (ops[j]?).bind (·.dst) = some s) (hv : a.eval (.tmp s) = .bool true) : Region.wanted o (yielded ops a.tmps) = true := by
  have h : a.tmps.getD s undef = .bool true := hv
  have h' : a.tmps[s]? = some (.bool true) := by
    by_cases hs : s < a.tmps.size
    · simp [Array.getD, hs] at h
      rw [Array.getElem?_eq_getElem hs, h]
    · simp [Array.getD, hs] at h
      cases h
  simp [Region.wanted, hg, yielded, hd, h']
theorem Fresh.old {own : Nat → Bool} {W : World} {i : Nat} {w : World} {row : Option Nat} {v : Value} (hi : own i = false) (h : ∀ g, v.ownBlock = some g → g < W.heap.size) : Fresh own W i w row v := by
  cases e : v.ownBlock with
  | none => exact .inl e
  | some g => exact .inr (.inr (.inr ⟨hi, g, e, h g e⟩))

section
variable {P : Program} {o : Oper} {a : Act} {w : World} {K : Act → World → Prop} {Q : Exit → Act → World → Prop}
theorem wp_pick {c x y : Operand} (ho : o.op = .pick c x y) (hc : a.eval c = .bool true) (h : K (a.put o.dst (a.eval x)) w) : Oper.wp P o a w K Q := by
  unfold Oper.wp execOp
  simp [ho, hc, asBool]
  exact h
end
section
variable {P : Program} {o : Oper} {a : Act} {w : World} {K : Act → World → Prop} {Q : Exit → Act → World → Prop}
theorem wp_slice_hi {t : TypeId} {x y : Operand} {xv yv v : Value} (ho : o.op = .slice t x none (some y) none) (hx : a.eval x = xv) (hy : a.eval y = yv)
    (hrun : (Instr.sliceAt t xv none (some yv) none).run P w = .ok v w) (h : K (a.put o.dst v) w) : Oper.wp P o a w K Q := by
  subst hx
  subst hy
  unfold Oper.wp execOp; simp only [ho, Option.map_none, Option.map_some, Sem.run_bind, hrun, Result.andThen_ok, Sem.run_pure]; exact h
theorem wp_slice_all {t : TypeId} {x : Operand} {xv v : Value} (ho : o.op = .slice t x none none none) (hx : a.eval x = xv)
    (hrun : (Instr.sliceAt t xv none none none).run P w = .ok v w) (h : K (a.put o.dst v) w) : Oper.wp P o a w K Q := by
  subst hx
  unfold Oper.wp execOp; simp only [ho, Option.map_none, Sem.run_bind, hrun, Result.andThen_ok, Sem.run_pure]; exact h
theorem wp_lit2 {t : TypeId} {x y : Operand} {u1 u2 v : Value} {w' : World} (ho : o.op = .buildSlice t 2 #[(0, x), (1, y)]) (hx : a.eval x = u1) (hy : a.eval y = u2)
    (hrun : (Instr.buildSlice t 2 #[(0, u1), (1, u2)]).run P w = .ok v w') (h : K (a.put o.dst v) w') : Oper.wp P o a w K Q :=
  wp_lit ho (by simpa [hx, hy] using hrun) h
theorem wp_lit0 {t : TypeId} {v : Value} {w' : World} (ho : o.op = .buildSlice t 0 #[])
    (hrun : (Instr.buildSlice t 0 #[]).run P w = .ok v w') (h : K (a.put o.dst v) w') : Oper.wp P o a w K Q :=
  wp_lit ho (by simpa using hrun) h
end

theorem lit_none (w : World) : (Instr.buildSlice 61 0 #[]).run Tryd.prog w = .ok (.slice (some ⟨w.heap.size, 0, none⟩) 0 0) (w.alloc (.cells #[] 5)) := by kernel_rfl
section
variable {o : Oper} {a : Act} {w : World} {K : Act → World → Prop} {Q : Exit → Act → World → Prop}
theorem wp_len {x : Operand} {t : TypeId} (ho : o.op = .call { callee := .builtin .len, args := #[x], argTypes := #[t] }) (ht : Tryd.prog.underlying t = some (.slice (Tryd.prog.elem t))) {A : Option Addr} {n c : Nat} (hx : a.eval x = .slice A n c)
    (h : K (a.put o.dst (.int .i64 n)) w) : Oper.wp Tryd.prog o a w K Q := by
  unfold Oper.wp execOp
  simp [ho, resolve, invoke, builtin, hx, run_len_slice (h := ht)]
  exact h
end
theorem lt_bool {v : Value} {b : Bool} (h : v = .bool b) {n : Nat} : ∀ g, v.ownBlock = some g → g < n := by
  subst h
  intro g e
  cases e
theorem Fresh.bool {own : Nat → Bool} {W : World} {i : Nat} {w : World} {row : Option Nat} {v : Value} {b : Bool} (h : v = .bool b) : Fresh own W i w row v := .inl (by rw [h]; rfl)
theorem lt_new (w : World) (o : Obj) {n c : Nat} : ∀ g, (Value.slice (some ⟨w.heap.size, 0, none⟩) n c).ownBlock = some g → g < (w.alloc o).heap.size := by
  intro g e
  cases e
  simp
theorem rd_of_own {w : World} {v : Value} {B l : List UInt8} (e : B = l) (h : OwnB w v l) : ∃ A c, v = .slice A B.length c ∧ RdAt w A (B.map bv) := by
  subst e
  obtain ⟨A, c, e, _, _, hr⟩ := h.slice
  exact ⟨A, c, e, hr⟩

theorem lt_val {v c : Value} (h : v = c) (hc : c.ownBlock = none) {n : Nat} : ∀ g, v.ownBlock = some g → g < n := by
  subst h
  intro g e
  rw [hc] at e
  cases e
theorem Fresh.val {own : Nat → Bool} {W : World} {i : Nat} {w : World} {row : Option Nat} {v c : Value} (h : v = c) (hc : c.ownBlock = none) : Fresh own W i w row v := .inl (by rw [h]; exact hc)
section
variable {P : Program} {o : Oper} {a : Act} {w : World} {K : Act → World → Prop} {Q : Exit → Act → World → Prop}
theorem wp_slice_lo {t : TypeId} {x y : Operand} {xv yv v : Value} (ho : o.op = .slice t x (some y) none none) (hx : a.eval x = xv) (hy : a.eval y = yv)
    (hrun : (Instr.sliceAt t xv (some yv) none none).run P w = .ok v w) (h : K (a.put o.dst v) w) : Oper.wp P o a w K Q := by
  subst hx
  subst hy
  unfold Oper.wp execOp; simp only [ho, Option.map_none, Option.map_some, Sem.run_bind, hrun, Result.andThen_ok, Sem.run_pure]; exact h
theorem wp_lit3 {t : TypeId} {x y z : Operand} {u1 u2 u3 v : Value} {w' : World} (ho : o.op = .buildSlice t 3 #[(0, x), (1, y), (2, z)]) (hx : a.eval x = u1) (hy : a.eval y = u2) (hz : a.eval z = u3)
    (hrun : (Instr.buildSlice t 3 #[(0, u1), (1, u2), (2, u3)]).run P w = .ok v w') (h : K (a.put o.dst v) w') : Oper.wp P o a w K Q :=
  wp_lit ho (by simpa [hx, hy, hz] using hrun) h
theorem wp_bin {op : BinOp} {t t2 : TypeId} {x y : Operand} {xv yv v : Value} (ho : o.op = .binOp op t x y t2) (hx : a.eval x = xv) (hy : a.eval y = yv)
    (hg : (eqGuard op t x y xv yv).run P w = .ok () w) (hrun : (binOp op t xv yv).run P w = .ok v w) (h : K (a.put o.dst v) w) : Oper.wp P o a w K Q := by
  subst hx
  subst hy
  unfold Oper.wp execOp
  simp [ho, hrun, hg]
  exact h
end

/-! ## Ints -/
theorem add_i64 (x y : Int) (w : World) (h : -9223372036854775808 ≤ x + y ∧ x + y ≤ 9223372036854775807) : (binOp .add 3 (.int .i64 x) (.int .i64 y)).run Tryd.prog w = .ok (.int .i64 (x + y)) w := by
  have e : (binOp .add 3 (.int .i64 x) (.int .i64 y)).run Tryd.prog w = .ok (.int .i64 (IntKind.i64.wrap (x + y))) w := by kernel_rfl
  rw [e, IntWalk.i64_in _ h]
theorem eql_i64 (x y : Int) (w : World) (h : x = y) : (binOp .eql 3 (.int .i64 x) (.int .i64 y)).run Tryd.prog w = .ok (.bool true) w := by
  subst h
  have e : (binOp .eql 3 (.int .i64 x) (.int .i64 x)).run Tryd.prog w = .ok (.bool (x == x)) w := by kernel_rfl
  rw [e, beq_self_eq_true]
theorem quo64_i64 (x : Int) (w : World) (h : 0 ≤ x ∧ x ≤ 9223372036854775807) : (binOp .quo 3 (.int .i64 x) (.int .i64 64)).run Tryd.prog w = .ok (.int .i64 (x / 64)) w := by
  have e : (binOp .quo 3 (.int .i64 x) (.int .i64 64)).run Tryd.prog w = .ok (.int .i64 (IntKind.i64.wrap (x.tdiv 64))) w := by kernel_rfl
  rw [e, IntWalk.i64_quo x 64 ⟨h.1, h.2, by decide⟩]
theorem guard_hash (x y : Operand) (cs ds : Array Value) (w : World) : (eqGuard .eql 44 x y (.agg cs) (.agg ds)).run Tryd.prog w = .ok () w := by kernel_rfl
theorem guard_int (x y : Operand) (m n : Int) (w : World) : (eqGuard .eql 3 x y (.int .i64 m) (.int .i64 n)).run Tryd.prog w = .ok () w := by kernel_rfl
theorem guard_add (x y : Operand) (xv yv : Value) (w : World) : (eqGuard .add 3 x y xv yv).run Tryd.prog w = .ok () w := by kernel_rfl
theorem guard_quo (x y : Operand) (xv yv : Value) (w : World) : (eqGuard .quo 3 x y xv yv).run Tryd.prog w = .ok () w := by kernel_rfl
theorem eqlH_true (x : List UInt8) (hx : x.length = 32) (w : World) : (binOp .eql 44 (.agg (x.map bv).toArray) (.agg (x.map bv).toArray)).run Tryd.prog w = .ok (.bool true) w := by
  rw [eql_hash x x hx hx w, beq_self_eq_true]

/-! ## Slices and literals -/
theorem sl_hiB (A : Option Addr) (n c k : Nat) (hk : k ≤ c) (w : World) : (Instr.sliceAt 61 (.slice A n c) none (some (.int .i64 (k : Int))) none).run Tryd.prog w = .ok (.slice A k c) w := by
  rw [run_sliceAt_slice (P := Tryd.prog) (w := w) (t := 61) (h := by kernel_rfl), run_slice_h (P := Tryd.prog) (w := w) (ht := by kernel_rfl) (h0 := by omega) (h2 := by omega)]
  have he : Tryd.prog.elem 61 = 5 := by kernel_rfl
  rw [he, sizeOf_u8, Result.andThen_ok]
  cases A with
  | none => simp [sliced]
  | some ad =>
    have e : ad.add 0 = ad := by unfold Addr.add; split <;> simp_all
    simp [sliced, e]
theorem sl_loB (A : Option Addr) (n c k : Nat) (hk : k ≤ n) (w : World) : (Instr.sliceAt 61 (.slice A n c) (some (.int .i64 (k : Int))) none none).run Tryd.prog w = .ok (.slice (if c = k then A else A.map (·.add k)) (n - k) (c - k)) w := by
  rw [run_sliceAt_slice (P := Tryd.prog) (w := w) (t := 61) (h := by kernel_rfl), run_slice_l (P := Tryd.prog) (w := w) (ht := by kernel_rfl) (h0 := by omega) (h1 := by omega)]
  have he : Tryd.prog.elem 61 = 5 := by kernel_rfl
  rw [he, sizeOf_u8, Result.andThen_ok]
  simp [sliced]
theorem lit_b1 (x : UInt8) (w : World) : (Instr.buildSlice 61 1 #[(0, .int .u8 (x.toNat : Int))]).run Tryd.prog w = .ok (.slice (some ⟨w.heap.size, 0, none⟩) 1 1) (w.alloc (.cells #[.int .u8 (x.toNat : Int)] 5)) := by kernel_rfl
theorem lit_p1 (p : Part) (w : World) : (Instr.buildSlice 46 1 #[(0, pv p)]).run Tryd.prog w = .ok (.slice (some ⟨w.heap.size, 0, none⟩) 1 1) (w.alloc (.cells #[pv p] 61)) := by kernel_rfl
theorem lit_p2 (p q : Part) (w : World) : (Instr.buildSlice 46 2 #[(0, pv p), (1, pv q)]).run Tryd.prog w = .ok (.slice (some ⟨w.heap.size, 0, none⟩) 2 2) (w.alloc (.cells #[pv p, pv q] 61)) := by kernel_rfl
theorem lit_p3 (p q r : Part) (w : World) : (Instr.buildSlice 46 3 #[(0, pv p), (1, pv q), (2, pv r)]).run Tryd.prog w = .ok (.slice (some ⟨w.heap.size, 0, none⟩) 3 3) (w.alloc (.cells #[pv p, pv q, pv r] 61)) := by kernel_rfl
theorem rd_lit (w : World) (vs : List Value) (n : Nat) (t : TypeId) (hn : vs.length = n) : ∃ A c, (Value.slice (some ⟨w.heap.size, 0, none⟩) n n) = .slice A vs.length c ∧ RdAt (w.alloc (.cells vs.toArray t)) A vs := by
  subst hn
  exact ⟨_, _, rfl, rd_row (heap_alloc_new _ _)⟩

/-! ## Calls -/
section
variable {o : Oper} {a : Act} {w : World} {K : Act → World → Prop} {Q : Exit → Act → World → Prop}
theorem wp_sum {x : Operand} {ts : Array TypeId} (ho : o.op = .call { callee := .value (.func 52), args := #[x], argTypes := ts })
    {A : Option Addr} {c n : Nat} {l : List UInt8} (hx : a.eval x = .slice A n c) (hr : RdB w A l) (e1 : n = l.length) (hc : n ≤ c) (hm : c ≤ maxLen) (hk : LaidK w) (hs : LaidS w) (hb : l.length ≤ 1000000000)
    (h : ∀ w', w.grownBy w' none → K (a.put o.dst (.agg ((sumL l).map bv).toArray)) w') : Oper.wp Tryd.prog o a w K Q := by
  subst e1
  refine wp_call ho Tryd.func52 (by kernel_rfl) (by kernel_rfl) (args := #[.slice A l.length c]) (by simp [hx]) ?_
  refine (Sum_any A l c w hk hs hr hc hm hb).mono ?_
  rintro e w' ⟨rfl, hg⟩
  exact ⟨_, rfl, h w' hg⟩
theorem wp_rsum {x : Operand} {ts : Array TypeId} (ho : o.op = .call { callee := .value (.func 55), args := #[x], argTypes := ts })
    {A : Option Addr} {c n : Nat} {l : List UInt8} (hx : a.eval x = .slice A n c) (hr : RdB w A l) (e1 : n = l.length) (hb : l.length ≤ 1000000000)
    (h : ∀ w', w.grownBy w' none → K (a.put o.dst (.agg ((sumL l).map bv).toArray)) w') : Oper.wp Tryd.prog o a w K Q := by
  subst e1
  refine wp_call ho Tryd.func55 (by kernel_rfl) (by kernel_rfl) (args := #[.slice A l.length c]) (by simp [hx]) ?_
  refine (RSum_any A l c w hr hb).mono ?_
  rintro e w' ⟨rfl, hg⟩
  exact ⟨_, rfl, h w' hg⟩
theorem wp_tag {x y : Operand} {ts : Array TypeId} (ho : o.op = .call { callee := .value (.func 42), args := #[x, y], argTypes := ts })
    {t : UInt8} {A : Option Addr} {c n : Nat} {ps : List Part} {l : List UInt8} (hx : a.eval x = .int .u8 (t.toNat : Int)) (hy : a.eval y = .slice A n c) (hA : RdP w A ps) (e1 : n = ps.length) (hl : catP ps = l) (hk : LaidK w) (hs : LaidS w) (hb : l.length ≤ 100000000) (hn : ps.length ≤ 100000000)
    (h : ∀ w', w.grownBy w' none → K (a.put o.dst (.agg ((tagL t l).map bv).toArray)) w') : Oper.wp Tryd.prog o a w K Q := by
  subst e1
  subst hl
  refine wp_call ho Tryd.func42 (by kernel_rfl) (by kernel_rfl) (args := #[.int .u8 (t.toNat : Int), .slice A ps.length c]) (by simp [hx, hy]) ?_
  refine (Tagged_any t A ps c w hk hs hA hb hn).mono ?_
  rintro e w' ⟨rfl, hg⟩
  exact ⟨_, rfl, h w' hg⟩
theorem wp_rtag {x y : Operand} {ts : Array TypeId} (ho : o.op = .call { callee := .value (.func 48), args := #[x, y], argTypes := ts })
    {t : UInt8} {A : Option Addr} {c n : Nat} {ps : List Part} {l : List UInt8} (hx : a.eval x = .int .u8 (t.toNat : Int)) (hy : a.eval y = .slice A n c) (hA : RdP w A ps) (e1 : n = ps.length) (hl : catP ps = l) (hb : l.length ≤ 100000000) (hn : ps.length ≤ 100000000)
    (h : ∀ w', w.grownBy w' none → K (a.put o.dst (.agg ((tagL t l).map bv).toArray)) w') : Oper.wp Tryd.prog o a w K Q := by
  subst e1
  subst hl
  refine wp_call ho Tryd.func48 (by kernel_rfl) (by kernel_rfl) (args := #[.int .u8 (t.toNat : Int), .slice A ps.length c]) (by simp [hx, hy]) ?_
  refine (RTagged_any t A ps c w hA hb hn).mono ?_
  rintro e w' ⟨rfl, hg⟩
  exact ⟨_, rfl, h w' hg⟩
theorem wp_blocks {x : Operand} {ts : Array TypeId} (ho : o.op = .call { callee := .value (.func 58), args := #[x], argTypes := ts })
    {m : Int} (hx : a.eval x = .int .i64 m) (hm : 0 ≤ m ∧ m ≤ 1000000000000) (h : K (a.put o.dst (.int .i64 ((m + 8) / 64 + 1))) w) : Oper.wp Tryd.prog o a w K Q := by
  refine wp_call ho Tryd.func58 (by kernel_rfl) (by kernel_rfl) (args := #[.int .i64 m]) (by simp [hx]) ?_
  refine (Blocks_i m w hm).mono ?_
  rintro e w' ⟨rfl, rfl⟩
  exact ⟨_, rfl, h⟩
end

theorem own_len {A : Option Addr} {n n' c c' : Nat} : (Value.slice A n c).ownBlock = (Value.slice A n' c').ownBlock := by cases A <;> rfl
theorem own_cut {A : Option Addr} {c k n' c' c'' g : Nat} {l : List UInt8} (h : (pv ((if c = k then A else A.map (·.add k), l, c') : Part)).ownBlock = some g) : (Value.slice A n' c'').ownBlock = some g := by
  cases A with
  | none => split at h <;> exact h
  | some ad =>
    split at h
    · exact h
    · have e : (pv ((Option.map (fun x => x.add k) (some ad), l, c') : Part)).ownBlock = some (ad.add k).block := rfl
      rw [e, add_block] at h
      exact h
end Go.Proofs.YtpeepiboocdnaaaDoor

namespace Go.Proofs.YtpeepiboocdnaaaDoor
open Go.ChangeShapes Go.WideShapes Go.ChangeAt Go.WideMaps Go.WideElems Go.RowKit

section
variable {H : Type} {enc : TypeId × Value → H} {P : Program} {W : World} {base : Nat} {v : Value} {d : DataW H} {p : List MemPlace}

theorem arg_byte {t : TypeId} (ht : P.underlying t = some (.int .u8)) (hv : Value.okWide P W .any base t v) (hd : DataW.Trod enc P W 0 (fun _ => true) true t v d p) :
    ∃ x : UInt8, v = .int .u8 (x.toNat : Int) := by
  obtain ⟨n, rfl, _, _, hw⟩ := open_int ht hv hd
  obtain ⟨h0, h1⟩ := bounds_u8 hw
  refine ⟨UInt8.ofNat n.toNat, ?_⟩
  rw [UInt8.toNat_ofNat', show (n.toNat % 2 ^ 8 : Nat) = n.toNat by omega, Int.toNat_of_nonneg h0]

theorem arg_bool {t : TypeId} (ht : P.underlying t = some .bool) (hv : Value.okWide P W .any base t v) (hd : DataW.Trod enc P W 0 (fun _ => true) true t v d p) :
    ∃ b : Bool, v = .bool b := by
  obtain ⟨b, rfl, _⟩ := open_bool ht hv hd
  exact ⟨b, rfl⟩

theorem trod_bytes {t e : TypeId} {fuel : Nat} {v : Value} {x : DataW H × List MemPlace} (ht : P.underlying t = some (.slice e)) (he : P.underlying e = some (.int .u8)) (hc : P.cellsOf e = 1)
    (hf : DataW.trod enc P W 0 (fun _ => true) true fuel t [v] = some x) :
    ∃ q : Part, v = pv q ∧ q.2.1.length ≤ q.2.2 ∧ q.2.2 ≤ maxLen ∧ RdB W q.1 q.2.1 := by
  rcases open_ints ht he hc hf with ⟨hcs, _⟩ | ⟨a, len, cap, zs, hcs, _, hl, hm, hz, _, hcell, hwz⟩
  · simp at hcs
    subst hcs
    exact ⟨(none, [], 0), rfl, Nat.le_refl _, Nat.zero_le _, RdAt.nil⟩
  · simp at hcs
    subst hcs
    simp only [if_true] at hz
    have hcl : ∀ i (hi : i < zs.length), W.cell? (a.add i) = some (.int .u8 zs[i]) := fun i hi => by
      have := hcell i hi
      rwa [show zs.getD i 0 = zs[i] from by simp [List.getD, hi]] at this
    have hall : ∀ v ∈ (zs.take len).map (Value.int .u8), ∃ n : Int, v = .int .u8 n ∧ 0 ≤ n ∧ n ≤ 255 := by
      intro v hv
      simp only [List.mem_map] at hv
      obtain ⟨n, hn, rfl⟩ := hv
      exact ⟨n, rfl, bounds_u8 (hwz n (List.mem_of_mem_take hn))⟩
    obtain ⟨l, hl'⟩ := bytes_of _ hall
    have hll : l.length = len := by
      have := congrArg List.length hl'
      simp only [List.length_map, List.length_take] at this
      omega
    refine ⟨(some a, l, cap), by simp only [pv, hll], by simp only [hll]; exact hl, hm, .inr ⟨a, rfl, fun j u hu => ?_⟩⟩
    simp only at hu
    rw [← hl'] at hu
    simp only [List.getElem?_map, Option.map_eq_some_iff] at hu
    obtain ⟨n, hn, rfl⟩ := hu
    rw [List.getElem?_take] at hn
    split at hn
    · obtain ⟨hj, rfl⟩ := List.getElem?_eq_some_iff.1 hn
      exact hcl j hj
    · cases hn

theorem list_of {α : Type} {Q : Nat → α → Prop} : ∀ n, (∀ i, i < n → ∃ x, Q i x) → ∃ xs : List α, xs.length = n ∧ ∀ i (h : i < xs.length), Q i xs[i]
  | 0, _ => ⟨[], rfl, fun i h => absurd h (by simp)⟩
  | n + 1, h => by
    obtain ⟨xs, hl, hx⟩ := list_of n fun i hi => h i (by omega)
    obtain ⟨y, hy⟩ := h n (by omega)
    refine ⟨xs ++ [y], by simp [hl], fun i hi => ?_⟩
    by_cases hin : i < xs.length
    · rw [List.getElem_append_left hin]; exact hx i hin
    · have : i = n := by rw [List.length_append, List.length_singleton] at hi; omega
      subst this
      rw [List.getElem_append_right (by omega)]
      simpa using hy

theorem arg_lists {t e b : TypeId} (ht : P.underlying t = some (.slice e)) (he : P.underlying e = some (.slice b)) (hb : P.underlying b = some (.int .u8)) (hce : P.cellsOf e = 1) (hcb : P.cellsOf b = 1)
    (hv : Value.okWide P W .any base t v) (hd : DataW.Trod enc P W 0 (fun _ => true) true t v d p) :
    ∃ (A : Option Addr) (ps : List Part) (c : Nat), v = .slice A ps.length c ∧ ps.length ≤ c ∧ c ≤ maxLen ∧ RdP W A ps ∧ ∀ q ∈ ps, q.2.1.length ≤ q.2.2 ∧ q.2.2 ≤ maxLen := by
  obtain ⟨a0, len, cap, rfl⟩ := okWide_slice ht hv
  obtain ⟨fuel, hf⟩ := hd
  rcases DataW.trod_slice ht hf with ⟨hcs, _⟩ | ⟨a, len', cap', elems, rest, n, _, hcs, hx, _, hl, hm, hlen, hel, _⟩
  · simp [Value.cells] at hcs
    obtain ⟨rfl, rfl, rfl⟩ := hcs
    exact ⟨none, [], 0, rfl, Nat.le_refl _, Nat.zero_le _, ⟨RdAt.nil, by simp⟩, by simp⟩
  · simp [Value.cells] at hcs
    obtain ⟨rfl, rfl, rfl⟩ := hcs
    have hq : ∀ i, i < len → ∃ q : Part, W.cell? (a.add i) = some (pv q) ∧ q.2.1.length ≤ q.2.2 ∧ q.2.2 ≤ maxLen ∧ RdB W q.1 q.2.1 := by
      intro i hi
      have hE := hel i hi
      rw [hce, Nat.mul_one] at hE
      rw [List.getElem?_eq_getElem (by omega)] at hE
      simp only [Option.bind_eq_some_iff] at hE
      obtain ⟨c1, hc1, hy1⟩ := hE
      have e0 : (a.add i).add 0 = a.add i := by simp [Addr.add]
      have hc : ∃ c, c1 = [c] ∧ W.cell? (a.add i) = some c := by
        unfold World.cells? at hc1
        split at hc1
        · simp only [List.range_succ, List.range_zero, List.nil_append, List.mapM_cons, List.mapM_nil, e0] at hc1
          cases hcc : W.cell? (a.add i) with
          | none => simp [hcc] at hc1
          | some c => simp [hcc] at hc1; exact ⟨c, hc1.symm, rfl⟩
        · cases hc1
      obtain ⟨c, rfl, hcell⟩ := hc
      obtain ⟨q, rfl, h1, h2, h3⟩ := trod_bytes he hb hcb hy1
      exact ⟨q, hcell, h1, h2, h3⟩
    obtain ⟨ps, hpl, hps⟩ := list_of len hq
    refine ⟨some a, ps, cap, by rw [hpl], by omega, hm, ⟨.inr ⟨a, rfl, fun j u hu => ?_⟩, fun q hq' => ?_⟩, fun q hq' => ?_⟩
    · simp only [List.getElem?_map, Option.map_eq_some_iff] at hu
      obtain ⟨q, hq', rfl⟩ := hu
      obtain ⟨hj, rfl⟩ := List.getElem?_eq_some_iff.1 hq'
      exact (hps j hj).1
    · obtain ⟨j, hj, rfl⟩ := List.getElem_of_mem hq'
      exact (hps j hj).2.2.2
    · obtain ⟨j, hj, rfl⟩ := List.getElem_of_mem hq'
      exact ⟨(hps j hj).2.1, (hps j hj).2.2.1⟩
end
end Go.Proofs.YtpeepiboocdnaaaDoor

namespace Go.Proofs.YtpeepiboocdnaaaDoor
open Go.ChangeShapes Go.WideShapes Go.ChangeAt Go.WideMaps Go.WideElems Go.RowKit

section
variable {H : Type} {enc : TypeId × Value → H} {P : Program} {W : World} {base : Nat} {v : Value} {d : DataW H} {p : List MemPlace}

theorem hash_cells {e b : TypeId} {fuel : Nat} {cs : List Value} {x : DataW H × List MemPlace} (he : P.underlying e = some (.array 32 b)) (hb : P.underlying b = some (.int .u8)) (hcb : P.cellsOf b = 1) (hce : P.cellsOf e = 32)
    (hf : DataW.trod enc P W 0 (fun _ => true) true fuel e cs = some x) : ∃ l : List UInt8, cs = l.map bv ∧ l.length = 32 := by
  obtain ⟨xs, m, _, _, hlen, hxl, hx⟩ := DataW.trod_array he hf
  have hcs : cs.length = 32 := by rw [hlen, hce]
  have hall : ∀ v ∈ cs, ∃ n : Int, v = .int .u8 n ∧ 0 ≤ n ∧ n ≤ 255 := by
    intro v hv
    obtain ⟨i, hi, rfl⟩ := List.getElem_of_mem hv
    have h1 := hx i (by omega)
    rw [hcb, Nat.mul_one, List.getElem?_eq_getElem (by omega)] at h1
    obtain ⟨n, e1, _, hw⟩ := DataW.trod_int hb h1
    have e2 : (cs.drop i).take 1 = [cs[i]] := by rw [List.drop_eq_getElem_cons hi]; rfl
    rw [e2] at e1
    injection e1 with e1
    exact ⟨n, e1, bounds_u8 hw⟩
  obtain ⟨l, hl⟩ := bytes_of _ hall
  refine ⟨l, hl, ?_⟩
  rw [hl, List.length_map] at hcs
  exact hcs

theorem flat_of {ls : List (List UInt8)} (h : ∀ x ∈ ls, x.length = 32) : ∀ (i j : Nat), j < 32 → ls.flatten[i * 32 + j]? = (ls[i]?).bind fun x => x[j]? := by
  induction ls with
  | nil => intro i j _; simp
  | cons a ls ih =>
    intro i j hj
    have ha := h a (List.mem_cons_self ..)
    cases i with
    | zero => rw [List.flatten_cons, List.getElem?_append_left (by omega)]; simp
    | succ i =>
      rw [List.flatten_cons, List.getElem?_append_right (by omega), ha, show (i + 1) * 32 + j - 32 = i * 32 + j by omega, ih (fun x hx => h x (List.mem_cons_of_mem _ hx)) i j hj]
      simp

theorem arg_hashes {t e b : TypeId} (ht : P.underlying t = some (.slice e)) (he : P.underlying e = some (.array 32 b)) (hb : P.underlying b = some (.int .u8)) (hce : P.cellsOf e = 32) (hcb : P.cellsOf b = 1)
    (hv : Value.okWide P W .any base t v) (hd : DataW.Trod enc P W 0 (fun _ => true) true t v d p) :
    ∃ (A : Option Addr) (l : List UInt8) (n c : Nat), v = .slice A n c ∧ n ≤ c ∧ l.length = n * 32 ∧ RdB W A l := by
  obtain ⟨a0, len, cap, rfl⟩ := okWide_slice ht hv
  obtain ⟨fuel, hf⟩ := hd
  rcases DataW.trod_slice ht hf with ⟨hcs, _⟩ | ⟨a, len', cap', elems, rest, n, _, hcs, hx, _, hl, hm, hlen, hel, _⟩
  · simp [Value.cells] at hcs
    obtain ⟨rfl, rfl, rfl⟩ := hcs
    exact ⟨none, [], 0, 0, rfl, Nat.le_refl _, rfl, RdAt.nil⟩
  · simp [Value.cells] at hcs
    obtain ⟨rfl, rfl, rfl⟩ := hcs
    have hq : ∀ i, i < len → ∃ q : List UInt8, q.length = 32 ∧ ∀ j u, (q.map bv)[j]? = some u → W.cell? ((a.add (i * 32)).add j) = some u := by
      intro i hi
      have hE := hel i hi
      rw [hce, List.getElem?_eq_getElem (by omega)] at hE
      simp only [Option.bind_eq_some_iff] at hE
      obtain ⟨c1, hc1, hy1⟩ := hE
      obtain ⟨q, rfl, hq⟩ := hash_cells he hb hcb hce hy1
      obtain ⟨_, hlen1, hcell⟩ := World.cells?_some hc1
      refine ⟨q, hq, fun j u hu => ?_⟩
      have hj : j < 32 := by
        have := (List.getElem?_eq_some_iff.1 hu).1
        rw [List.length_map, hq] at this; exact this
      rw [hcell j hj]; exact hu
    obtain ⟨ls, hll, hls⟩ := list_of len hq
    have h32 : ∀ x ∈ ls, x.length = 32 := by
      intro x hx
      obtain ⟨i, hi, rfl⟩ := List.getElem_of_mem hx
      exact (hls i hi).1
    have hfl : ls.flatten.length = len * 32 := by
      rw [← hll]
      clear hls hll
      induction ls with
      | nil => rfl
      | cons x ls ih =>
        rw [List.flatten_cons, List.length_append, ih (fun y hy => h32 y (List.mem_cons_of_mem _ hy)), h32 x (List.mem_cons_self ..), List.length_cons]; omega
    refine ⟨some a, ls.flatten, len, cap, rfl, by omega, hfl, .inr ⟨a, rfl, fun j u hu => ?_⟩⟩
    have hj : j < len * 32 := by
      have := (List.getElem?_eq_some_iff.1 hu).1
      rw [List.length_map, hfl] at this; exact this
    have e : j = j / 32 * 32 + j % 32 := by omega
    have hi : j / 32 < ls.length := by omega
    rw [e, List.getElem?_map, flat_of h32 _ _ (Nat.mod_lt _ (by decide)), List.getElem?_eq_getElem hi] at hu
    rw [e, ← add_add]
    exact (hls _ hi).2 _ u (by rw [List.getElem?_map]; exact hu)
end
end Go.Proofs.YtpeepiboocdnaaaDoor
