/- Rings: heights and places; the program's keys of all heights and its identity. -/
import Derived.Test.YtohdifimfhdhoaaDoorRingD
namespace Go.Proofs.YtohdifimfhdhoaaDoor
open Go.RowKit

theorem place_to (k : Nat) (hk : k ≤ 1000) (w : World) :
    Calls Tryd.prog 26 #[.int .i64 ((k : Int) + 1)] w fun e w' => e = .returned (.int .i64 (k : Int)) ∧ w' = w := by
  have hs : IntKind.i64.wrap (k : Int) = (k : Int) := IntWalk.i64_in _ ⟨by omega, by omega⟩
  have hs1 : IntKind.i64.wrap ((k : Int) + 1 - 1) = (k : Int) := by rw [show (k : Int) + 1 - 1 = (k : Int) by omega]; exact hs
  go_enter Tryd.func26, Tryd.ntmps26
  go_wp2_with fail
  go_ret
  exact ⟨rfl, rfl⟩
theorem place_n (k : Nat) (hk : k ≤ 1000) (w : World) :
    Calls Tryd.prog 26 #[.int .i64 ((k + 1 : Nat) : Int)] w fun e w' => e = .returned (.int .i64 (k : Int)) ∧ w' = w := by
  rw [show ((k + 1 : Nat) : Int) = (k : Int) + 1 by omega]
  exact place_to k hk w
theorem isH_yes (h : Int) (h1 : 1 ≤ h) (h2 : h ≤ 16) (w : World) :
    Calls Tryd.prog 23 #[.int .i64 h] w fun e w' => e = .returned (.bool true) ∧ w' = w := by
  go_enter Tryd.func23, Tryd.ntmps23
  go_wp2_with fail
  go_ret
  exact ⟨rfl, rfl⟩
theorem isH_no (h : Int) (hne : h < 1 ∨ 16 < h) (w : World) :
    Calls Tryd.prog 23 #[.int .i64 h] w fun e w' => e = .returned (.bool false) ∧ w' = w := by
  by_cases h1 : 1 ≤ h
  · have h2 : ¬ h ≤ 16 := by omega
    go_enter Tryd.func23, Tryd.ntmps23
    go_wp2_with fail
    go_ret
    exact ⟨rfl, rfl⟩
  · go_enter Tryd.func23, Tryd.ntmps23
    go_wp2_with fail
    go_ret
    exact ⟨rfl, rfl⟩

theorem make_lists (w : World) : (Instr.makeSlice 44 (.int .i64 16) (.int .i64 16)).run Tryd.prog w = .ok (.slice (some ⟨w.heap.size, 0, none⟩) 16 16) (w.alloc (.cells (List.replicate 16 (.slice none 0 0)).toArray 30)) := by kernel_rfl

/-- A row of lists, filled in order: so far. -/
def rowT (xs : List Value) : Array Value := (xs ++ List.replicate (16 - xs.length) (Value.slice none 0 0)).toArray
theorem rowT_next (xs : List Value) (v : Value) (h : xs.length < 16) : (rowT xs).setIfInBounds xs.length v = rowT (xs ++ [v]) := by
  unfold rowT
  apply Array.ext'
  obtain ⟨k, hk⟩ : ∃ k, 16 - xs.length = k + 1 := ⟨16 - xs.length - 1, by omega⟩
  rw [show 16 - (xs ++ [v]).length = k by rw [List.length_append, List.length_singleton]; omega, hk, List.replicate_succ]
  simp only [Array.toList_setIfInBounds]
  rw [List.set_append_right _ _ (Nat.le_refl _)]
  simp
theorem rowT_get (xs : List Value) (h : xs.length < 16) : (rowT xs)[xs.length]? = some (Value.slice none 0 0) := by
  unfold rowT
  obtain ⟨k, hk⟩ : ∃ k, 16 - xs.length = k + 1 := ⟨16 - xs.length - 1, by omega⟩
  simp [hk, List.replicate_succ]

theorem PartH.over {w : World} {p : Part} {g i : Nat} {v : Value} {cs : Array Value} {fr : Nat × Nat} (h : PartH w p) (hg : w.heap[g]? = some (.cells cs 30 fr)) : PartH (w.setCell ⟨g, i, none⟩ v) p := by
  obtain ⟨b, C, fr', e, hb, hC⟩ := h
  refine ⟨b, C, fr', e, (Below.heap_setCell w ⟨g, i, none⟩ v b (fun e2 => ?_)).trans hb, hC⟩
  have e3 : b = g := e2
  rw [← e3, hb] at hg
  cases hg

set_option maxRecDepth 100000 in
set_option maxHeartbeats 2000000 in
theorem leaves_any (s : List UInt8) (h32 : s.length = 32) (w : World) (hk : Laid2 w) :
    Calls Tryd.prog 25 #[.agg (s.map bv).toArray] w fun e w' => ∃ (A : Option Addr) (ps : List Part) (c : Nat), e = .returned (.slice A 16 c) ∧ ps.length = 16 ∧ 16 ≤ c ∧ RdP w' A ps ∧ leavesOf ps = keysR s ∧ w.grownBy w' none := by
  have hS : Hid (s.length = 32) := h32
  clear h32
  have hmk := make_lists (w.alloc (.cells (s.map bv).toArray 23))
  obtain ⟨C, hC⟩ : ∃ C : Array Value, C = (List.replicate 16 (.slice none 0 0)).toArray := ⟨_, rfl⟩
  rw [← hC] at hmk
  replace hC := Lib.hid hC
  go_enter Tryd.func25, Tryd.ntmps25
  go_wp2_with fail
  clear hmk
  generalize hW : World.alloc (World.alloc w _) _ = W
  have hb : W.heap[w.heap.size]? = some (.cells (s.map bv).toArray 23 (0, 0)) := by rw [← hW]; exact alloc_old (alloc_at rfl)
  have hq : Hid (W.heap[w.heap.size + 1]? = some (.cells (rowT []) 30 (0, 0))) := by
    show _ = _
    rw [← hW, hC.out]
    exact alloc_at (by first | rfl | simp)
  have hgW : w.grownBy W none := by rw [← hW]; exact grown_alloc (grown_alloc (grown_refl _ _) _) _
  replace hW := Lib.hid hW
  have hkW := hk.kept hgW
  go_loopw [4] (fun i wz => ∃ (k : Nat) (ps : List Part), k ≤ 16 ∧ i = .int .i64 ((k + 1 : Nat) : Int) ∧ Hid (ps.length = k) ∧ Hid (wz.heap[w.heap.size + 1]? = some (.cells (rowT (ps.map pv)) 30 (0, 0))) ∧ Hid (leavesOf ps = (List.range k).map fun i => keyL (seedR s (i + 1))) ∧ (∀ p ∈ ps, PartH wz p) ∧ w.grownBy wz none ∧ Hid (wz.heap[w.heap.size]? = some (.cells (s.map bv).toArray 23 (0, 0)))) (fun i _ => 20 - (intOf i).toNat)
  case atStart => exact ⟨0, [], by omega, rfl, rfl, hq, rfl, by simp, hgW, hb⟩
  case round =>
    obtain ⟨k, ps, hkl, rfl, hpk, hqz, hps, hpb, hgn, hbz⟩ := hrel
    by_cases hk16 : k < 16
    · have hk' : ((k : Int) + 1) ≤ 16 := by omega
      have hsd := fun w' (h : Laid2 w') => Seed_any s hS.out (k + 1) (by omega) w' h
      obtain ⟨Y, hY⟩ : ∃ Y, Y = seedR s (k + 1) := ⟨_, rfl⟩
      rw [← hY] at hsd
      have hky := fun w' (h : Laid2 w') => Key_any Y (by rw [hY]; exact seedR_len _ _) w' h
      obtain ⟨X, hX⟩ : ∃ X, X = keyL Y := ⟨_, rfl⟩
      have hXl : Hid (X.length = 32) := by rw [hX]; exact keyL_len' _
      have HN : Hid (∀ p : Part, p.2.1 = X → leavesOf (ps ++ [p]) = (List.range (k + 1)).map fun i => keyL (seedR s (i + 1))) := fun p hp => keys_next s k ps p hps.out (by rw [hp, hX, hY])
      rw [← hX] at hky
      clear hX hY hps hq hb
      go_wp2_with (first
        | (refine wpList_load_row rfl 23 _ rfl w.heap.size rfl _ (s.map bv).toArray (0, 0) _ hbz.out Tryd.underlying23 rfl (hashV_size s hS.out) ?_)
        | (go_at_call 15; refine (hsd _ (hk.kept hgn)).mono ?_; rintro e w5 ⟨rfl, hg5⟩)
        | (go_at_call 19; refine (hky _ (hk.kept (grown_same hgn hg5))).mono ?_; rintro e w6 ⟨rfl, hg6⟩)
        | (refine wpList_store_row rfl 23 _ _ rfl w6.heap.size (X.map bv).toArray rfl rfl 23 _ (alloc_at rfl) (hashV_size X hXl.out) (by rw [show (X.map bv).toArray.size = 32 from by rw [List.size_toArray, List.length_map, hXl.out]]; rfl) (bv_all' _) ?_; generalize hV : World.setRow _ w6.heap.size _ = V; have HV := new_hash hV; clear hV))
      have hgV : wr.grownBy V none := grown_same (grown_same hg5 hg6) HV.2
      have hqV : V.drew.heap[w.heap.size + 1]? = some (.cells (rowT (ps.map pv)) 30 (0, 0)) := keep_of hqz.out (grown_drew hgV)
      have hbV : V.drew.heap[w.heap.size]? = some (.cells (s.map bv).toArray 23 (0, 0)) := keep_of hbz.out (grown_drew hgV)
      have hpV : ∀ p ∈ ps, PartH V.drew p := fun p hp => (hpb p hp).kept (grown_drew hgV)
      have hnV : PartH V.drew (hp w6.heap.size X) := (partH_new HV.1).kept (grown_drew (grown_refl _ _))
      have hgD : w.grownBy V.drew none := grown_drew (grown_same hgn hgV)
      have hlen : (ps.map pv).length = k := by rw [List.length_map, hpk.out]
      have hcell : V.drew.cell? ⟨w.heap.size + 1, k, none⟩ = some (.slice none 0 0) := by
        rw [cell_of_row _ _ _ _ _ _ hqV, ← hlen]; exact rowT_get _ (by omega)
      have hfro : V.drew.frozen? ⟨w.heap.size + 1, k, none⟩ = false := frozen_of_row _ _ _ _ _ hqV
      clear hg5 hg6 hsd hky hpb hgV hbz hqz
      refine wp_region_still_tail 5 (by kernel_rfl) (by kernel_rfl) ?_
      change wpStill _ _ V.drew (fun a' => wpList _ _ _ _ a' V.drew) _ _
      generalize V.drew = w4 at hqV hbV hpV hnV hgD hcell hfro ⊢
      generalize w6.heap.size = b at hnV ⊢
      have hpl := place_to k (by omega) w4
      have i1 : (k : Int) < 16 := by omega
      have i2 : (0 : Int) ≤ (k : Int) := by omega
      simp only [List.take_succ_cons, List.take_zero, List.drop_succ_cons, List.drop_zero]
      repeat (first | still_step | still_call hpl)
      try refine wpStill_nil ?_
      clear hpl
      go_wp2_with fail
      go_roundw
      case rel =>
        refine ⟨k + 1, ps ++ [hp b X], by omega, by go_num, ?_, ?_, HN.out _ rfl, ?_, grown_set hgD (.inr (by simp)) _, ?_⟩
        · show _ = _; rw [List.length_append, hpk.out]; rfl
        · show _ = _
          refine heap_setCell_to hqV ?_
          rw [List.map_append, List.map_singleton, ← pv_hp hXl.out, ← rowT_next _ _ (by omega), hlen]
        · intro q hq
          rcases List.mem_append.1 hq with hq | hq
          · exact (hpV q hq).over hqV
          · rw [List.mem_singleton] at hq
            subst hq
            exact hnV.over hqV
        · exact (Below.heap_setCell w4 ⟨w.heap.size + 1, k, none⟩ _ w.heap.size (by simp)).trans hbV
      case measure => simp [intOf]; omega
    · have hk' : ¬ ((k : Int) + 1) ≤ 16 := by omega
      have hkk : k = 16 := by omega
      go_wp2_with fail
      go_ret
      refine ⟨_, ps, 16, rfl, hpk.out.trans hkk, Nat.le_refl _, ⟨?_, fun p hp => (hpb p hp).rd⟩, hps.out.trans (by rw [hkk]; rfl), hgn⟩
      have h0 := hqz.out
      unfold rowT at h0
      rw [List.length_map, hpk.out, hkk] at h0
      exact rd_row (by simpa using h0)

set_option maxRecDepth 100000 in
theorem Ident_any (s : List UInt8) (h32 : s.length = 32) (w : World) (hk : Laid2 w) :
    Calls Tryd.prog 9 #[.agg (s.map bv).toArray] w fun e w' => e = .returned (.agg ((identR s).map bv).toArray) ∧ w.grownBy w' none := by
  have hks := fun w' (h : Laid2 w') => leaves_any s h32 w' h
  have hro := fun A (ps : List Part) c w' (h1 : ps.length = 16) (h2 : 16 ≤ c) (h3 : leavesOf ps = keysR s) (h : Laid2 w') (hr : RdP w' A ps) => Root_any 16 A ps c w' h1 h2 (by omega) (leaf_le h3) h hr
  obtain ⟨X, hX⟩ : ∃ X, X = identR s := ⟨_, rfl⟩
  have HX := Lib.hid hX
  have hXl : Hid (X.length = 32) := by rw [hX]; exact identR_len s
  have hS : Hid (s.length = 32) := h32
  rw [← hX]
  clear hX h32
  go_enter Tryd.func9, Tryd.ntmps9
  go_wp2_with (first
    | (refine wpList_load_row rfl 23 _ rfl w.heap.size rfl _ (s.map bv).toArray (0, 0) _ (alloc_old (alloc_at rfl)) Tryd.underlying23 rfl (hashV_size s hS.out) ?_)
    | (go_at_call 25; refine (hks _ (hk.kept (grown_alloc (grown_alloc (grown_refl _ _) _) _))).mono ?_; rintro e w5 ⟨A5, ps, c5, rfl, hn5, hc5, hr5, hl5, hg5⟩; replace hl5 := Lib.hid hl5; replace hn5 := Lib.hid hn5)
    | (go_at_call 20; refine (hro _ _ _ _ hn5.out hc5 hl5.out ((hk.kept (grown_alloc (grown_alloc (grown_refl _ _) _) _)).kept hg5) hr5).mono ?_; rintro e w6 ⟨rfl, hg6⟩; rw [hl5.out, ← identR, ← HX.out])
    | (refine wpList_store_row rfl 23 _ _ rfl (w.heap.size + 1) (X.map bv).toArray rfl rfl 23 _ (keep_of (keep_of (alloc_at (by simp)) hg5) hg6) (hashV_size X hXl.out) (by rw [show (X.map bv).toArray.size = 32 from by rw [List.size_toArray, List.length_map, hXl.out]]; rfl) (bv_all' _) ?_))
  refine bodyPost_ret (results_cell_row rfl _ _ (w.heap.size + 1) 23 (X.map bv).toArray (0, 0) _ rfl (setRow_heap _ _ _ _ _ _ (keep_of (keep_of (alloc_at (by simp)) hg5) hg6)) Tryd.underlying23 rfl (hashV_size X hXl.out)) rfl ?_
  exact ⟨rfl, grown_setRow (grown_same (grown_same (grown_alloc (grown_alloc (grown_refl _ _) _) _) hg5) hg6) (.inr (by omega)) _⟩
end Go.Proofs.YtohdifimfhdhoaaDoor
