/- Chapter 2's runs: the contract of the closed statement. -/
import Derived.Test.YtcooadmepkojfaaDoorSum
import Derived.Test.YtcooadmepkojfaaDoorBook
import Derived.Lib.SlBytesConst
namespace Go.Proofs.YtcooadmepkojfaaDoor
open Go.RowKit

theorem sum_nil_at : ∀ j, j < 4 → (sumL [])[j]? = ([0xe3, 0xb0, 0xc4, 0x42] : List UInt8)[j]? := fun j h => by
  rw [← sum_nil, List.getElem?_take_of_lt h]
theorem sum_abc_at : ∀ j, j < 4 → (sumL [97, 98, 99])[j]? = ([0xba, 0x78, 0x16, 0xbf] : List UInt8)[j]? := fun j h => by
  rw [← sum_abc, List.getElem?_take_of_lt h]
theorem cell_bv {w : World} {g j : Nat} {X : List UInt8} {t : TypeId} {fr : Nat × Nat} (h : w.heap[g]? = some (.cells (X.map bv).toArray t fr)) {b : UInt8} (hb : X[j]? = some b) : w.cell? ⟨g, j, none⟩ = some (.int .u8 (b.toNat : Int)) := by
  rw [cell_of_row w _ _ _ _ _ h, List.getElem?_toArray, List.getElem?_map, hb]
  rfl

/-- Two rows made, the first one written. -/
theorem two_rows {w w' : World} {C1 C2 X : Array Value} {t : TypeId} (h : ((w.alloc (.cells C1 t)).alloc (.cells C2 t)).setRow w.heap.size X = w') :
    Hid (w'.heap[w.heap.size]? = some (.cells X t (0, 0)) ∧ w'.heap[w.heap.size + 1]? = some (.cells C2 t (0, 0)) ∧ w.grownBy w' none) := by
  show _ ∧ _
  subst h
  exact ⟨setRow_heap _ _ _ _ _ _ (heap_alloc_1 _ _ _), (setRow_other _ _ _ _ (by omega)).trans (heap_alloc_2 _ _ _), grown_setRow (grown_alloc (grown_alloc (grown_refl _ _) _) _) (.inr (Nat.le_refl _)) _⟩
theorem two_0 {w w' : World} {g : Nat} {X Y : Array Value} {t : TypeId} (h : w.heap[g]? = some (.cells X t (0, 0))) (hw : w.setRow (g + 1) Y = w') : Hid (w'.heap[g]? = some (.cells X t (0, 0))) := by
  subst hw
  exact (setRow_other _ _ _ _ (by omega)).trans h
theorem two_1 {w w' : World} {g : Nat} {C Y : Array Value} {t : TypeId} (h : w.heap[g + 1]? = some (.cells C t (0, 0))) (hw : w.setRow (g + 1) Y = w') : Hid (w'.heap[g + 1]? = some (.cells Y t (0, 0))) := by
  subst hw
  exact setRow_heap _ _ _ _ _ _ h
theorem ret_w2 {a b : Bool} (h : a = b) : Ending.returned (.bool a) = .returned (.bool b) := by rw [h]
theorem conv_const (w : World) (C : Array Value) (n c : Nat) : (convert 25 25 (.slice (some ⟨w.heap.size, 0, none⟩) n c)).run Tryd.prog (w.alloc (.cells C 5)) = .ok (.slice (some ⟨w.heap.size, 0, none⟩) n c) (w.alloc (.cells C 5 (C.size, C.size + 1))) :=
  Lib.run_convert_bytes_const w 25 5 C n c Tryd.underlying25 Tryd.underlying5

set_option maxRecDepth 100000 in
set_option maxHeartbeats 2000000 in
theorem ShaRuns_any (w : World) (hk : LaidK w) (hs : LaidS w) :
    Calls Tryd.prog 3 #[] w fun e w' => e = .returned (.bool true) ∧ w.grownBy w' none := by
  have hS1 := fun w' (h1 : LaidK w') (h2 : LaidS w') => Sum_any none [] 0 w' h1 h2 RdAt.nil (Nat.le_refl _) (Nat.zero_le _) (by simp)
  have hS2 := fun w' g (h1 : LaidK w') (h2 : LaidS w') (h3 : RdB w' (some ⟨g, 0, none⟩) [97, 98, 99]) => Sum_any (some ⟨g, 0, none⟩) [97, 98, 99] 3 w' h1 h2 h3 (by simp) (by unfold maxLen; omega) (by simp)
  obtain ⟨X, hX⟩ : ∃ X, X = sumL [] := ⟨_, rfl⟩
  obtain ⟨Y, hY⟩ : ∃ Y, Y = sumL [97, 98, 99] := ⟨_, rfl⟩
  have x0 : X[0]? = some 0xe3 := by rw [hX]; exact sum_nil_at 0 (by omega)
  have x1 : X[1]? = some 0xb0 := by rw [hX]; exact sum_nil_at 1 (by omega)
  have x2 : X[2]? = some 0xc4 := by rw [hX]; exact sum_nil_at 2 (by omega)
  have x3 : X[3]? = some 0x42 := by rw [hX]; exact sum_nil_at 3 (by omega)
  have y0 : Y[0]? = some 0xba := by rw [hY]; exact sum_abc_at 0 (by omega)
  have y1 : Y[1]? = some 0x78 := by rw [hY]; exact sum_abc_at 1 (by omega)
  have y2 : Y[2]? = some 0x16 := by rw [hY]; exact sum_abc_at 2 (by omega)
  have y3 : Y[3]? = some 0xbf := by rw [hY]; exact sum_abc_at 3 (by omega)
  have hXl : Hid (X.length = 32) := by rw [hX]; exact sumL_len []
  have hYl : Hid (Y.length = 32) := by rw [hY]; exact sumL_len _
  have HXS : Hid ((Tryd.prog.info? 23).map (·.size) = some (X.map bv).toArray.size) := by rw [List.size_toArray, List.length_map, hXl.out]; exact size_hash
  have HYS : Hid ((Tryd.prog.info? 23).map (·.size) = some (Y.map bv).toArray.size) := by rw [List.size_toArray, List.length_map, hYl.out]; exact size_hash
  rw [← hX] at hS1
  rw [← hY] at hS2
  have HX : Hid (X[0]? = some 0xe3 ∧ X[1]? = some 0xb0 ∧ X[2]? = some 0xc4 ∧ X[3]? = some 0x42) := ⟨x0, x1, x2, x3⟩
  have HY : Hid (Y[0]? = some 0xba ∧ Y[1]? = some 0x78 ∧ Y[2]? = some 0x16 ∧ Y[3]? = some 0xbf) := ⟨y0, y1, y2, y3⟩
  clear x0 x1 x2 x3 y0 y1 y2 y3 hX hY
  have hcv := conv_const
  go_enter Tryd.func3, Tryd.ntmps3
  go_wp2_with (first
    | (go_at_call_of 8 (Value.slice none 0 0); refine (hS1 _ hk hs).mono ?_; rintro e w1 ⟨rfl, hg1⟩)
    | (go_at_call 8; refine (hS2 _ w1.heap.size (hk.kept (grown_alloc hg1 _)) (hs.kept (grown_alloc hg1 _)) (rd_row (cs := [97, 98, 99].map bv) (heap_alloc_new _ _))).mono ?_; rintro e w2 ⟨rfl, hg2⟩)
    | (refine wpList_store_row rfl 23 _ _ rfl w2.heap.size (X.map bv).toArray rfl rfl 23 _ (heap_alloc_1 _ _ _) HXS.out (by rw [show (X.map bv).toArray.size = 32 from by rw [List.size_toArray, List.length_map, hXl.out]]; rfl) (bv_all' _) ?_; generalize hw3 : World.setRow _ _ _ = w3; have HW3 := Lib.hid hw3; clear hw3; have hq3 := two_rows HW3.out)
    | (refine wpList_store_row rfl 23 _ _ rfl (w2.heap.size + 1) (Y.map bv).toArray rfl rfl 23 _ hq3.out.2.1 HYS.out (by rw [show (Y.map bv).toArray.size = 32 from by rw [List.size_toArray, List.length_map, hYl.out]]; rfl) (bv_all' _) ?_; generalize hw4 : World.setRow _ _ _ = w4; have HW4 := Lib.hid hw4; clear hw4; have hq0 := two_0 hq3.out.1 HW4.out; have hq1 := two_1 hq3.out.2.1 HW4.out; have a0 := cell_bv hq0.out HX.out.1; have a1 := cell_bv hq0.out HX.out.2.1; have a2 := cell_bv hq0.out HX.out.2.2.1; have a3 := cell_bv hq0.out HX.out.2.2.2; have b0 := cell_bv hq1.out HY.out.1; have b1 := cell_bv hq1.out HY.out.2.1; have b2 := cell_bv hq1.out HY.out.2.2.1; have b3 := cell_bv hq1.out HY.out.2.2.2)
    | (go_at_call 9; refine (Blocks_i _ _ (by omega)).mono ?_; rintro e w4 ⟨rfl, rfl⟩))
  have hg4 : w.grownBy w4 none := by
    rw [← HW4.out]
    exact grown_setRow (grown_same (grown_same (grown_alloc hg1 _) hg2) hq3.out.2.2) (.inr (by have h1 := hg1.size; have h2 := hg2.size; simp at h2; omega)) _
  go_ret
  exact ⟨rfl, hg4⟩

set_option maxRecDepth 100000 in
set_option maxHeartbeats 2000000 in
theorem ShaBlocks_any (n m : Int) (w : World) (hk : LaidK w) (hs : LaidS w) :
    Calls Tryd.prog 7 #[.int .i64 n, .int .i64 m] w fun e w' => e = .returned (.bool true) ∧ w.grownBy w' none := by
  obtain ⟨x, hx, hX⟩ := Within_nat n 100000 (by omega)
  obtain ⟨y, hy, hY⟩ := Within_nat m 100000 (by omega)
  have hrun := ShaRuns_any w hk hs
  go_enter Tryd.func7, Tryd.ntmps7
  go_wp2_with (first
    | (go_at_call_of 10 (Value.int .i64 n); refine (hX _).mono ?_; rintro e w1 ⟨rfl, rfl⟩)
    | (go_at_call_of 10 (Value.int .i64 m); refine (hY _).mono ?_; rintro e w1 ⟨rfl, rfl⟩)
    | (go_at_call 9; refine (Blocks_i _ _ (by omega)).mono ?_; rintro e w4 ⟨rfl, rfl⟩)
    | (go_at_call 3; refine hrun.mono ?_; rintro e w5 ⟨rfl, hg5⟩))
  all_goals (go_ret; refine ⟨ret_w2 ?_, hg5⟩; first | rfl | (rw [Bool.or_eq_true, decide_eq_true_iff, decide_eq_true_iff]; omega))
end Go.Proofs.YtcooadmepkojfaaDoor
