/- SHA-256 of a row of bytes: the contract of package sha's Sum. -/
import Derived.Test.YtmfnncfiaaeknaaDoorLen
namespace Go.Proofs.YtmfnncfiaaeknaaDoor
open Go.RowKit

theorem padL_len (n : Nat) : (padL n).length = 64 * blocksN n - n := by
  simp [padL, lenB_len, blocksN]; omega
theorem stirs_last (s : St) (l : List UInt8) (n : Nat) : stirs s l (n + 1) = stir (stirs s l n) ((l.drop (64 * n)).take 64) := rfl
/-- The block of a text that lies before its end. -/
theorem block_in (l p : List UInt8) (k : Nat) (h : 64 * k + 64 ≤ l.length) : ((l ++ p).drop (64 * k)).take 64 = (l.drop (64 * k)).take 64 := by
  rw [List.drop_append_of_le_length (by omega), List.take_append_of_le_length (by rw [List.length_drop]; omega)]
theorem block_end (l p : List UInt8) (k : Nat) (h : 64 * k ≤ l.length) : (l ++ p).drop (64 * k) = l.drop (64 * k) ++ p := List.drop_append_of_le_length h

theorem stirs_app (s : St) (l p : List UInt8) : ∀ k, 64 * k ≤ l.length → stirs s (l ++ p) k = stirs s l k
  | 0, _ => rfl
  | k + 1, h => by rw [stirs_last, stirs_last, stirs_app s l p k (by omega), block_in l p k (by omega)]
theorem rd_block {w : World} {g : Nat} {E : List UInt8} {post : List Value} {t : TypeId} {fr : Nat × Nat} (h : w.heap[g]? = some (.cells (E.map bv ++ post).toArray t fr)) (j : Nat) (hj : 64 * j + 64 ≤ E.length) :
    RdB w (some ⟨g, 64 * j, none⟩) ((E.drop (64 * j)).take 64) := by
  have h1 := ((rd_row h).drop (64 * j)).take 64
  rw [Option.map_some, add_zero_pos, List.drop_append_of_le_length (by rw [List.length_map]; omega), List.take_append_of_le_length (by rw [List.length_drop, List.length_map]; omega), ← List.map_drop, ← List.map_take] at h1
  exact h1
theorem zeros_u8 (n : Nat) : (List.replicate n (0 : UInt8)).map bv = List.replicate n (Value.int .u8 0) := by simp [bv]
/-- What stands in the room: the rest, its end, and what is left of the room. -/
theorem room_end (r : List UInt8) (N : Nat) (hN : N % 64 = r.length) :
    r.map bv ++ bv 0x80 :: (List.replicate (64 * blocksN r.length - 9 - r.length) (Value.int .u8 0)) ++ (lenB N).map bv ++ List.replicate (128 - 64 * blocksN r.length) (Value.int .u8 0)
      = (r ++ padL N).map bv ++ List.replicate (128 - 64 * blocksN r.length) (Value.int .u8 0) := by
  have e : 64 * ((N + 8) / 64 + 1) - N - 9 = 64 * blocksN r.length - 9 - r.length := by unfold blocksN; omega
  rw [padL, e]
  simp only [List.map_append, List.map_cons, zeros_u8, List.append_assoc, List.cons_append]
theorem room_parts (r : List UInt8) (hr : r.length < 64) :
    r.map bv ++ bv 0x80 :: List.replicate (127 - r.length) (Value.int .u8 0)
      = (r.map bv ++ bv 0x80 :: (List.replicate (64 * blocksN r.length - 9 - r.length) (Value.int .u8 0))) ++ List.replicate 8 (Value.int .u8 0) ++ List.replicate (128 - 64 * blocksN r.length) (Value.int .u8 0) := by
  have e : 127 - r.length = (64 * blocksN r.length - 9 - r.length) + (8 + (128 - 64 * blocksN r.length)) := by unfold blocksN; omega
  rw [e, ← List.replicate_append_replicate, ← List.replicate_append_replicate]
  simp only [List.append_assoc, List.cons_append]
theorem zero128 (w : World) : (zeroValue 74).run Tryd.prog w = .ok (.agg (List.replicate 128 (Value.int .u8 0)).toArray) w := by kernel_rfl

theorem room_copied (r : List UInt8) : splice (List.replicate 128 (Value.int .u8 0)) 0 (r.map bv) = r.map bv ++ List.replicate (128 - r.length) (Value.int .u8 0) := by
  unfold splice
  rw [List.take_zero, List.nil_append, List.length_map, Nat.zero_add, List.drop_replicate]
theorem room_cell {w : World} {g n : Nat} {r : List UInt8} {t : TypeId} (hq : w.heap[g]? = some (.cells (splice (List.replicate 128 (Value.int .u8 0)) 0 (r.map bv)).toArray t (0, 0))) (hn : r.length = n) (h : n < 64) :
    w.cell? ⟨g, n, none⟩ = some (.int .u8 0) ∧ w.frozen? ⟨g, n, none⟩ = false := by
  refine ⟨?_, frozen_of_row w _ _ _ _ hq⟩
  rw [cell_of_row w _ _ _ _ _ hq, room_copied, List.getElem?_toArray, List.getElem?_append_right (by rw [List.length_map]; omega), List.getElem?_replicate]
  rw [if_pos (by rw [List.length_map]; omega)]
theorem room_marked {w : World} {g n nb : Nat} {r : List UInt8} {t : TypeId} (hq : w.heap[g]? = some (.cells (splice (List.replicate 128 (Value.int .u8 0)) 0 (r.map bv)).toArray t (0, 0))) (hn : r.length = n) (h : n < 64) (hnb : nb = blocksN n) :
    (w.setCell ⟨g, n, none⟩ (.int .u8 128)).heap[g]? = some (.cells ((r.map bv ++ bv 0x80 :: List.replicate (64 * nb - 9 - n) (Value.int .u8 0)) ++ List.replicate 8 (Value.int .u8 0) ++ List.replicate (128 - 64 * nb) (Value.int .u8 0)).toArray t (0, 0)) := by
  subst hn hnb
  refine heap_setCell_to hq ?_
  rw [room_copied, ← room_parts r h, show 128 - r.length = (127 - r.length) + 1 by omega, List.replicate_succ]
  apply Array.ext'
  rw [Array.toList_setIfInBounds]
  exact set_mid _ _ _ _ _ (by rw [List.length_map])
theorem size_u8 : (Tryd.prog.info? 5).map (·.size) = some 1 := by kernel_rfl

def lenOf : Value → Nat
  | .slice _ n _ => n
  | _ => 0
theorem wpStill_load {P : Program} {ops : Array Oper} {w : World} {Q : Act → Prop} {a : Act} {o : Oper} {rest : List Oper} (hgd : o.guard = none) (ty : TypeId) (x : Operand) (ho : o.op = .load ty x) {ad : Addr} {v : Value}
    (hx : a.eval x = .pointer (some ad)) (hr : (loadVar ty ad).run P w = .ok v w) (h : wpStill P ops w Q rest (a.put o.dst v)) : wpStill P ops w Q (o :: rest) a := by
  unfold wpStill
  have hw : Region.wanted o (yielded ops a.tmps) = true := by simp [Region.wanted, hgd]
  rw [if_pos hw]
  unfold Oper.still execOp
  simp only [ho, hx, Instr.loadAt, Instr.sureAddr, Sem.run_bind, Sem.run_pure, Result.andThen_ok, hr]
  exact ⟨rfl, h⟩
theorem load_st (w : World) (g : Nat) (s : St) (t : TypeId) (fr : Nat × Nat) (hg : w.heap[g]? = some (.cells (s.cells.map wv).toArray t fr)) :
    (loadVar 72 ⟨g, 0, none⟩).run Tryd.prog w = .ok (stV s) w :=
  run_loadVar_row (P := Tryd.prog) w g t 72 (s.cells.map wv).toArray fr _ hg Tryd.underlying72 rfl size_st

set_option maxRecDepth 100000 in
set_option maxHeartbeats 2000000 in
theorem Sum_any (A : Option Addr) (l : List UInt8) (c : Nat) (w : World) (hk : LaidK w) (hs : LaidS w) (hr : RdB w A l) (hc : l.length ≤ c) (hm : c ≤ maxLen) (hb : l.length ≤ 1000000000) :
    Calls Tryd.prog 44 #[.slice A l.length c] w fun e w' => e = .returned (.agg ((sumL l).map bv).toArray) ∧ w.grownBy w' none := by
  go_enter Tryd.func44, Tryd.ntmps44
  go_wp2_with (first
    | (refine wpList_load_agg rfl 72 _ rfl ⟨0, 0, none⟩ rfl (start.cells.map wv) _ (hs.kept (grown_alloc (grown_refl _ _) _)).cells Tryd.underlying72 rfl size_st ?_)
    | (refine wpList_store_row rfl 72 _ _ rfl (w.heap.size + 1) _ rfl rfl 72 _ (heap_alloc_2 _ _ _) size_st rfl (wv_all start.cells) ?_; generalize hw2 : World.setRow _ _ _ = w2; have HW2 := Lib.hid hw2; clear hw2))
  have hq0 : Hid (w2.heap[w.heap.size]? = some (.cells (rowH []) 23 (0, 0))) := by
    show _ = _
    rw [← HW2.out, setRow_other _ _ _ _ (by omega)]
    exact heap_alloc_1 _ _ _
  have hq1 : Hid (w2.heap[w.heap.size + 1]? = some (.cells ((stirs start l 0).cells.map wv).toArray 72 (0, 0))) := by
    show _ = _
    rw [← HW2.out]
    exact setRow_heap _ _ _ _ _ _ (heap_alloc_2 _ _ _)
  have hg2 : w.grownBy w2 none := by
    rw [← HW2.out]
    exact grown_setRow (grown_alloc (grown_alloc (grown_refl _ _) _) _) (.inr (by omega)) _
  clear HW2
  go_loopw [4] (fun x wr => ∃ (k n : Nat) (A' : Option Addr) (c' : Nat), 64 * k + n = l.length ∧ x = .slice A' n c' ∧ n ≤ c' ∧ c' ≤ maxLen ∧ RdB w A' (l.drop (64 * k)) ∧ Hid (wr.heap[w.heap.size]? = some (.cells (rowH []) 23 (0, 0))) ∧ Hid (wr.heap[w.heap.size + 1]? = some (.cells ((stirs start l k).cells.map wv).toArray 72 (0, 0))) ∧ w.grownBy wr none) (fun x _ => lenOf x)
  case atStart => exact ⟨0, l.length, A, c, by omega, rfl, hc, hm, by simpa using hr, hq0, hq1, hg2⟩
  case round =>
    clear hq0 hq1 hg2
    obtain ⟨k, n, A', c', hkn, rfl, hnc, hcm, hr', hq0, hq1, hg⟩ := hrel
    by_cases hlt : 64 ≤ n
    · have hst := fun w' (h1 : LaidK w') (h2 : RdB w' A' ((l.drop (64 * k)).take 64)) => stir_any (stirs start l k) A' ((l.drop (64 * k)).take 64) c' w' h1 h2 (by rw [List.length_take, List.length_drop]; omega) (by omega)
      obtain ⟨S, hS⟩ : ∃ S, S = stirs start l k := ⟨_, rfl⟩
      obtain ⟨T, hT⟩ : ∃ T, T = stir S ((l.drop (64 * k)).take 64) := ⟨_, rfl⟩
      rw [← hS, ← hT] at hst
      rw [← hS] at hq1
      have HT : Hid (T = stirs start l (k + 1)) := by show _ = _; rw [hT, hS]; rfl
      clear hT hS
      go_wp2
      have hq0' : Hid (wr.drew.heap[w.heap.size]? = some (.cells (rowH []) 23 (0, 0))) := hq0
      have hq1' : Hid (wr.drew.heap[w.heap.size + 1]? = some (.cells (S.cells.map wv).toArray 72 (0, 0))) := hq1
      have hg' : w.grownBy wr.drew none := grown_drew hg
      have hd := load_st wr.drew (w.heap.size + 1) S _ _ hq1
      refine wp_region_still_tail 3 (by kernel_rfl) (by kernel_rfl) ?_
      change wpStill _ _ wr.drew (fun a' => wpList _ _ _ _ a' wr.drew) _ _
      generalize wr.drew = w4 at hq0' hq1' hg' hd ⊢
      simp only [List.take_succ_cons, List.take_zero, List.drop_succ_cons, List.drop_zero]
      have i1 : (64 : Int) ≤ (c' : Int) := by omega
      have i2 : 64 ≤ c' := by omega
      refine wpStill_load rfl _ _ rfl rfl hd ?_
      repeat still_step
      refine wpStill_nil ?_
      go_wp2_with (first
        | (go_at_call 49; refine (hst _ (hk.kept hg') (rd_takeB (hr'.kept hg') 64)).mono ?_; rintro e w5 ⟨rfl, hg5⟩)
        | (refine wpList_store_row rfl 72 _ _ rfl (w.heap.size + 1) (T.cells.map wv).toArray rfl rfl 72 (S.cells.map wv).toArray ((hg5.block _ (Array.getElem?_eq_some_iff.1 hq1'.out).1 (by simp)).trans hq1'.out) size_st rfl (wv_all _) ?_; generalize hw6 : World.setRow _ _ _ = w6; have HW6 := Lib.hid hw6; clear hw6))
      have hg6 : w.grownBy w6 none := by
        rw [← HW6.out]
        exact grown_setRow (grown_same hg' hg5) (.inr (by omega)) _
      have hq06 : Hid (w6.heap[w.heap.size]? = some (.cells (rowH []) 23 (0, 0))) := by
        show _ = _
        rw [← HW6.out, setRow_other _ _ _ _ (by omega), hg5.block _ (Array.getElem?_eq_some_iff.1 hq0'.out).1 (by simp)]
        exact hq0'.out
      have hq16 : Hid (w6.heap[w.heap.size + 1]? = some (.cells ((stirs start l (k + 1)).cells.map wv).toArray 72 (0, 0))) := by
        show _ = _
        rw [← HW6.out, ← HT.out]
        exact setRow_heap _ _ _ _ _ _ ((hg5.block _ (Array.getElem?_eq_some_iff.1 hq1'.out).1 (by simp)).trans hq1'.out)
      refine ⟨⟨k + 1, n - 64, _, c' - 64, by omega, rfl, by omega, by omega, ?_, hq06, hq16, hg6⟩, by show n - 64 < n; omega⟩
      have := RdAt.cut hr' (k := 64) (c := c') (by rw [List.length_map, List.length_drop]; omega)
      rw [← List.map_drop, List.drop_drop, show 64 * k + 64 = 64 * (k + 1) by omega] at this
      exact this
    · obtain ⟨r, hrr⟩ : ∃ r, r = l.drop (64 * k) := ⟨_, rfl⟩
      have hrl : r.length = n := by rw [hrr, List.length_drop]; omega
      rw [← hrr] at hr'
      have HRR := Lib.hid hrr
      have HRL := Lib.hid hrl
      have hb2 : blocksN n = 1 ∨ blocksN n = 2 := by unfold blocksN; omega
      obtain ⟨nb, hnb⟩ : ∃ nb, nb = blocksN n := ⟨_, rfl⟩
      have hBl := fun w' => Blocks_any n w' (by omega)
      rw [← hnb] at hBl hb2
      have HNB := Lib.hid hnb
      have hnb1 : 1 ≤ nb := by omega
      have hnb2 : nb ≤ 2 := by omega
      clear hrr hrl hnb
      have hz := zero128
      have i3 : (64 : Int) * (nb : Int) ≤ 128 := by omega
      have i4 : (0 : Int) ≤ 64 * (nb : Int) := by omega
      have hpos : ∀ o : Obj, 0 < (r.map bv).length → ∃ ad, A' = some ad ∧ ∀ j v, (r.map bv)[j]? = some v → (wr.alloc o).cell? (ad.add j) = some v := by
        intro o h
        rcases (hr'.kept hg).alloc o with e | ⟨ad, e, hc⟩
        · rw [e] at h; simp at h
        · exact ⟨ad, e, hc⟩
      have HP := Lib.hid hpos
      clear hpos
      go_wp2_with (first
        | (go_at_call 50; refine (hBl _).mono ?_; rintro e w' ⟨rfl, rfl⟩)
        | (go_at_call 51; refine (putLength_any wr.heap.size (64 * nb) 128 l.length (r.map bv ++ bv 0x80 :: List.replicate (64 * nb - 9 - n) (Value.int .u8 0)) (List.replicate 8 (Value.int .u8 0)) (List.replicate (128 - 64 * nb) (Value.int .u8 0)) 74 _ (by rw [List.length_append, List.length_cons, List.length_map, List.length_replicate, HRL.out, HNB.out]; unfold blocksN; omega) (by rw [List.length_replicate]) (room_marked hq8.out HRL.out (by omega) HNB.out) (by omega) (by omega)).mono ?_; rintro e w9 ⟨rfl, hq9, hg9⟩; have HQ9 := Lib.hid hq9; clear hq9)
        | ((refine wpList_copy_splice rfl _ _ 24 24 rfl 5 Tryd.underlying24 size_u8 (some ⟨wr.heap.size, 0, none⟩) A' (64 * nb) 128 n c' rfl rfl wr.heap.size 0 (List.replicate 128 (Value.int .u8 0)) 74 (heap_alloc_new _ _) (r.map bv) (by rw [List.length_map, HRL.out]; exact (Nat.min_eq_left (by omega)).symm) (fun h => ⟨rfl, HP.out _ h⟩) (by rw [List.length_map, List.length_replicate, HRL.out]; omega) (bv_one r) wr.heap.size wr (grown_below (grown_alloc (grown_refl _ _) _)) (Nat.le_refl _) ?_); intro w8 hq8 hb8; obtain ⟨hc8, hf8⟩ := room_cell hq8.out HRL.out (by omega)))
      have hsz0 : Hid (w.heap.size + 2 ≤ wr.heap.size) := by
        show _ ≤ _
        have := (Array.getElem?_eq_some_iff.1 hq1.out).1
        omega
      have hg8 : w.grownBy (w8.setCell ⟨wr.heap.size, n, none⟩ (.int .u8 128)) none := grown_same hg (grown_set (grown_of_below hb8) (.inr (Nat.le_refl _)) _)
      have hgg : w.grownBy w9 none := grown_trans hg8 hg9 (.inr fun g e => by injection e with e; have := hg.size; omega)
      have hold : ∀ b, b < wr.heap.size → w9.heap[b]? = wr.heap[b]? := fun b hb => by
        rw [hg9.block b (by have h1 := hb8.size; have h2 : (w8.setCell ⟨wr.heap.size, n, none⟩ (.int .u8 128)).heap.size = w8.heap.size := by simp [World.setCell]
                            omega) (by intro e; injection e with e; omega), Below.heap_setCell _ _ _ _ (by show b ≠ wr.heap.size; omega)]
        exact hb8.block b hb
      have hq0' : Hid (w9.heap[w.heap.size]? = some (.cells (rowH []) 23 (0, 0))) := by
        show _ = _
        rw [hold _ (by have := hsz0.out; omega)]; exact hq0.out
      obtain ⟨E, hE⟩ : ∃ E, E = r ++ padL l.length := ⟨_, rfl⟩
      obtain ⟨F, hF⟩ : ∃ F, F = l ++ padL l.length := ⟨_, rfl⟩
      have hEl : Hid (E.length = 64 * nb) := by
        show _ = _
        rw [hE, List.length_append, padL_len, HRL.out, HNB.out]; unfold blocksN; omega
      have hFE : Hid (∀ j, F.drop (64 * (k + j)) = E.drop (64 * j)) := by
        intro j
        rw [hF, hE, show 64 * (k + j) = 64 * k + 64 * j by omega, ← List.drop_drop, block_end _ _ _ (by omega), ← HRR.out]
      have hKB : Hid (k + nb = blocksN l.length) := by show _ = _; rw [HNB.out]; unfold blocksN; omega
      have hsum : Hid (sumL l = outB (stirs start F (blocksN l.length))) := by show _ = _; rw [hF]; rfl
      have hqE : Hid (w9.heap[wr.heap.size]? = some (.cells (E.map bv ++ List.replicate (128 - 64 * nb) (Value.int .u8 0)).toArray 74 (0, 0))) := by
        show _ = _
        rw [HQ9.out, hE]
        have h1 := room_end r l.length (by rw [HRL.out]; omega)
        rw [HRL.out, ← HNB.out] at h1
        rw [h1]
      have hq1' : Hid (w9.heap[w.heap.size + 1]? = some (.cells ((stirs start F (k + 0)).cells.map wv).toArray 72 (0, 0))) := by
        show _ = _
        rw [hold _ (by have := hsz0.out; omega), hF, Nat.add_zero, stirs_app _ _ _ _ (by omega)]; exact hq1.out
      clear hE hF hb8 hc8 hf8 hg9 hg8 hold
      clear hq8 HQ9 HP
      generalize hg3 : wr.heap.size = g3 at hsz0 hqE ⊢
      clear hg3
      go_loopw [6] (fun x wz => ∃ (j m : Nat) (A2 : Option Addr) (c2 : Nat), j + m = nb ∧ x = .slice A2 (64 * m) c2 ∧ 64 * m ≤ c2 ∧ c2 ≤ maxLen ∧ (0 < m → A2 = some ⟨g3, 64 * j, none⟩) ∧ Hid (wz.heap[w.heap.size]? = some (.cells (rowH []) 23 (0, 0))) ∧ Hid (wz.heap[w.heap.size + 1]? = some (.cells ((stirs start F (k + j)).cells.map wv).toArray 72 (0, 0))) ∧ Hid (wz.heap[g3]? = some (.cells (E.map bv ++ List.replicate (128 - 64 * nb) (Value.int .u8 0)).toArray 74 (0, 0))) ∧ w.grownBy wz none) (fun x _ => lenOf x)
      case atStart => exact ⟨0, nb, _, 128, by omega, rfl, by omega, by unfold maxLen; omega, fun _ => rfl, hq0', hq1', hqE, hgg⟩
      case round =>
        clear hq0' hq1' hqE hgg
        obtain ⟨j, m, A2, c2, hjm, rfl, hmc, hcm2, hA2, hq0, hq1, hqE, hg⟩ := hrel
        by_cases hlt : 0 < m
        · obtain rfl := hA2 hlt
          have hst := fun w' (h1 : LaidK w') (h2 : RdB w' (some ⟨g3, 64 * j, none⟩) ((E.drop (64 * j)).take 64)) => stir_any (stirs start F (k + j)) (some ⟨g3, 64 * j, none⟩) ((E.drop (64 * j)).take 64) c2 w' h1 h2 (by rw [List.length_take, List.length_drop, hEl.out]; omega) (by omega)
          obtain ⟨S, hS⟩ : ∃ S, S = stirs start F (k + j) := ⟨_, rfl⟩
          obtain ⟨T, hT⟩ : ∃ T, T = stir S ((E.drop (64 * j)).take 64) := ⟨_, rfl⟩
          rw [← hS, ← hT] at hst
          rw [← hS] at hq1
          have HT : Hid (T = stirs start F (k + (j + 1))) := by
            show _ = _
            rw [hT, hS, ← hFE.out j, show k + (j + 1) = (k + j) + 1 by omega]; rfl
          clear hT hS
          go_wp2
          have hq0' : Hid (wr.drew.heap[w.heap.size]? = some (.cells (rowH []) 23 (0, 0))) := hq0
          have hq1' : Hid (wr.drew.heap[w.heap.size + 1]? = some (.cells (S.cells.map wv).toArray 72 (0, 0))) := hq1
          have hqE' : Hid (wr.drew.heap[g3]? = some (.cells (E.map bv ++ List.replicate (128 - 64 * nb) (Value.int .u8 0)).toArray 74 (0, 0))) := hqE
          have hg' : w.grownBy wr.drew none := grown_drew hg
          have hd := load_st wr.drew (w.heap.size + 1) S _ _ hq1
          refine wp_region_still_tail 3 (by kernel_rfl) (by kernel_rfl) ?_
          change wpStill _ _ wr.drew (fun a' => wpList _ _ _ _ a' wr.drew) _ _
          generalize wr.drew = w4 at hq0' hq1' hqE' hg' hd ⊢
          simp only [List.take_succ_cons, List.take_zero, List.drop_succ_cons, List.drop_zero]
          have i1 : (64 : Int) ≤ (c2 : Int) := by omega
          have i2 : 64 ≤ c2 := by omega
          have hE64 : Hid (64 * j + 64 ≤ E.length) := by show _ ≤ _; rw [hEl.out]; omega
          refine wpStill_load rfl _ _ rfl rfl hd ?_
          repeat still_step
          refine wpStill_nil ?_
          go_wp2_with (first
            | (go_at_call 49; refine (hst _ (hk.kept hg') (rd_block hqE'.out j hE64.out)).mono ?_; rintro e w5 ⟨rfl, hg5⟩)
            | (refine wpList_store_row rfl 72 _ _ rfl (w.heap.size + 1) (T.cells.map wv).toArray rfl rfl 72 (S.cells.map wv).toArray ((hg5.block _ (Array.getElem?_eq_some_iff.1 hq1'.out).1 (by simp)).trans hq1'.out) size_st rfl (wv_all _) ?_; generalize hw6 : World.setRow _ _ _ = w6; have HW6 := Lib.hid hw6; clear hw6))
          have hne : Hid (g3 ≠ w.heap.size + 1) := by have := hsz0.out; show _ ≠ _; omega
          have hg6 : w.grownBy w6 none := by
            rw [← HW6.out]
            exact grown_setRow (grown_same hg' hg5) (.inr (by omega)) _
          have hq06 : Hid (w6.heap[w.heap.size]? = some (.cells (rowH []) 23 (0, 0))) := by
            show _ = _
            rw [← HW6.out, setRow_other _ _ _ _ (by omega), hg5.block _ (Array.getElem?_eq_some_iff.1 hq0'.out).1 (by simp)]
            exact hq0'.out
          have hqE6 : Hid (w6.heap[g3]? = some (.cells (E.map bv ++ List.replicate (128 - 64 * nb) (Value.int .u8 0)).toArray 74 (0, 0))) := by
            show _ = _
            rw [← HW6.out, setRow_other _ _ _ _ hne.out, hg5.block _ (Array.getElem?_eq_some_iff.1 hqE'.out).1 (by simp)]
            exact hqE'.out
          have hq16 : Hid (w6.heap[w.heap.size + 1]? = some (.cells ((stirs start F (k + (j + 1))).cells.map wv).toArray 72 (0, 0))) := by
            show _ = _
            rw [← HW6.out, ← HT.out]
            exact setRow_heap _ _ _ _ _ _ ((hg5.block _ (Array.getElem?_eq_some_iff.1 hq1'.out).1 (by simp)).trans hq1'.out)
          refine ⟨⟨j + 1, m - 1, _, c2 - 64, by omega, by rw [show 64 * m - 64 = 64 * (m - 1) by omega], by omega, by omega, fun h => ?_, hq06, hq16, hqE6, hg6⟩, by show 64 * m - 64 < 64 * m; omega⟩
          rw [if_neg (by omega)]
          rfl
        · have hm0 : m = 0 := by omega
          subst hm0
          have hj : j = nb := by omega
          subst hj
          obtain ⟨S, hS⟩ : ∃ S, S = stirs start F (k + j) := ⟨_, rfl⟩
          rw [← hS] at hq1
          have hsum' : Hid (sumL l = outB S) := by show _ = _; rw [hsum.out, hS, hKB.out]
          obtain ⟨X, hX⟩ : ∃ X, X = outB S := ⟨_, rfl⟩
          have hH := fun w' => hashOf_any S w'
          rw [← hX] at hH
          have hXl : Hid (X.length = 32) := by rw [hX]; exact outB_len S
          have HX := Lib.hid hX
          have HS : Hid ((Tryd.prog.info? 23).map (·.size) = some (X.map bv).toArray.size) := by rw [List.size_toArray, List.length_map, hXl.out]; exact size_hash
          clear hS hX
          go_wp2_with (first
            | (refine wpList_load_row rfl 72 _ rfl (w.heap.size + 1) rfl 72 (S.cells.map wv).toArray (0, 0) _ hq1.out Tryd.underlying72 rfl size_st ?_)
            | (go_at_call 52; refine (hH _).mono ?_; rintro e w5 ⟨rfl, hg5⟩)
            | (refine wpList_store_row rfl 23 _ _ rfl w.heap.size (X.map bv).toArray rfl rfl 23 (rowH []) ((hg5.block _ (Array.getElem?_eq_some_iff.1 hq0.out).1 (by simp)).trans hq0.out) HS.out (by rw [rowH_size _ (by simp), List.size_toArray, List.length_map, hXl.out]) (bv_all' _) ?_))
          refine bodyPost_ret (results_cell_row rfl _ _ w.heap.size 23 (X.map bv).toArray (0, 0) _ rfl (setRow_heap _ _ _ _ _ _ ((hg5.block _ (Array.getElem?_eq_some_iff.1 hq0.out).1 (by simp)).trans hq0.out)) Tryd.underlying23 rfl HS.out) rfl ?_
          exact ⟨by rw [hsum'.out, HX.out], grown_setRow (grown_same hg hg5) (.inr (Nat.le_refl _)) _⟩
end Go.Proofs.YtmfnncfiaaeknaaDoor
