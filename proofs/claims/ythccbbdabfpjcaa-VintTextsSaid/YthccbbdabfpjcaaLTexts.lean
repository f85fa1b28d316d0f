/- For any bytes and any number VintTexts returns true: a text's length says how much is read; one that says more than there is isn't read; hashes are 32 bytes, no fewer. Nothing that was there changes. Condition: none. -/
import Derived.Test.YthccbbdabfpjcaaPure
import Derived.Test.YthccbbdabfpjcaaLRuns
namespace Go.Proofs.Ythccbbdabfpjcaa
open Go.ChangeShapes Go.WideShapes Go.ChangeAt Go.RowKit

set_option maxHeartbeats 1000000 in
theorem VintTexts_any (A : Option Addr) (raw : List UInt8) (c : Nat) (n : Int) (W : World) (hr : RdB W A raw) (hc : raw.length ≤ c) (hm : c ≤ maxLen) :
    Calls Try.prog 8 #[.slice A raw.length c, .int .i64 n] W fun e w' => e = .returned (.bool true) ∧ W.grownBy w' none := by
  have hm' : c ≤ 9223372036854775807 := hm
  obtain ⟨m, hmin0, hm1, hm2⟩ := min_some raw.length 60
  have hmin : (if (60 : Int) < (raw.length : Int) then (60 : Int) else (raw.length : Int)) = (m : Int) := hmin0
  clear hmin0
  obtain ⟨L, hL⟩ : ∃ L, L = raw.take m := ⟨_, rfl⟩
  have hLl : Hid (L.length = m) := by show _ = _; rw [hL, List.length_take]; omega
  have hrL : RdB W A L := by rw [hL]; exact rd_takeB hr m
  clear hL
  obtain ⟨k, hk, hwk⟩ := Within_nat n 100 (by omega)
  have HWK := Lib.hid hwk
  clear hwk
  have hkl := putN_len k (by omega)
  have hown := ownB_new W #[] [] 0 rfl rfl (Nat.zero_le _)
  go_enter Try.func8, Try.ntmps8
  go_wp2_with (at_builtin; refine wpList_appB _ rfl _ _ rfl rfl hown (news := L) rfl hLl.out.symm (hrL.alloc _) ?c1 ?_)
  case c1 => rw [hLl.out]; simp; omega
  intro v1 w1 ho1 hg1
  have hW1 := hg1.fresh.nil
  obtain ⟨A1, c1, rfl, q1, q2, hr1⟩ := ho1.slice
  have hL60 : L.length ≤ 60 := by rw [hLl.out]; exact hm2
  have q2' : c1 ≤ 9223372036854775807 := q2
  go_wp2_with fail
  refine (HWK.out _).mono ?_
  rintro e w' ⟨rfl, rfl⟩
  go_wp2_with fail
  refine (Put1_any _ _ k _ (rd_new _ _ _ _ rfl)).mono ?_
  rintro e w2 ⟨v2, rfl, ho2, hg2⟩
  rw [putL_some (by omega)] at ho2
  have hW2 : w1.grownBy w2 none := grown_none (grown_alloc (grown_refl _ _) _) hg2.nil
  have hr2 : RdB w2 A1 L := hr1.kept hW2
  go_wp2_with (at_builtin; refine wpList_appB _ rfl _ _ rfl rfl ho2 (news := L) rfl rfl hr2 ?c2 ?_)
  case c2 => omega
  intro v3 w3 ho3 hg3
  have hw13 : w1.grownBy w3 none := ((Grew.pre (grown_alloc (grown_refl w1 none) _) hg2).trans hg3).nil
  have hW3 : W.grownBy w3 none := grown_none hW1 hw13
  have hA1 : ∀ ad, A1 = some ad → ad.block < w1.heap.size := fun ad e => ho1.lt ad.block (by rw [e]; rfl)
  obtain ⟨D, hD⟩ : ∃ D, D = putN k ++ L := ⟨_, rfl⟩
  rw [← hD] at ho3
  have HD := Lib.hid hD
  clear hD
  have hDl : D.length ≤ 66 := by rw [HD.out, List.length_append]; omega
  obtain ⟨A3, c3, rfl, q3, q4, hr3⟩ := ho3.slice
  go_wp2_with fail
  refine (Read_any _ _ _ _ hr3 (by omega)).mono ?_
  rintro e w4 ⟨g, rfl, hgs, hR4, hg4⟩
  have hW4 : W.grownBy w4 none := grown_none hW3 hg4
  have hgW : W.heap.size ≤ g := Nat.le_trans hW3.size hgs
  have hT := RText_any g (D, false) _ hR4
  by_cases hkL : L.length < k
  · rw [show rText (D, false) = ([], ([], true)) from by
      rw [HD.out]; unfold rText; rw [rNum_read _ _ _ (by omega)]; unfold rTake; rw [if_pos hkL]] at hT
    have HT := Lib.hid hT
    clear hT
    go_wp2_with fail
    refine HT.out.mono ?_
    rintro e w5 ⟨rfl, hR5, hg5⟩
    have hW5 : W.grownBy w5 none := grown_trans hW4 hg5 (.inr fun r e => by injection e with e; omega)
    go_wp2_with fail
    refine (Good_any g ([], true) _ hR5).mono ?_
    rintro e w' ⟨rfl, rfl⟩
    go_wp2_with fail
    refine (Done_any g ([], true) _ hR5).mono ?_
    rintro e w' ⟨rfl, rfl⟩
    go_wp2_with fail
    refine (VintRuns_any _).mono ?_
    rintro e w6 ⟨rfl, hg6⟩
    go_wp2
    go_ret
    exact ⟨rfl, grown_none hW5 hg6⟩
  · obtain ⟨X, hX⟩ : ∃ X, X = L.take k := ⟨_, rfl⟩
    have hXl : Hid (X.length = k) := by show _ = _; rw [hX, List.length_take]; omega
    rw [show rText (D, false) = (X, (L.drop k, false)) from by
      rw [HD.out, hX]; unfold rText; rw [rNum_read _ _ _ (by omega)]; unfold rTake; rw [if_neg hkL]] at hT
    have HT := Lib.hid hT
    have hrX : ∀ w : World, RdB w A1 L → RdB w A1 X := fun w h => by rw [hX]; exact rd_takeB h k
    have HRX := Lib.hid hrX
    clear hT hX hrX
    have hkL' : k ≤ L.length := by omega
    go_wp2_with fail
    refine HT.out.mono ?_
    rintro e w5 ⟨rfl, hR5, hg5⟩
    have hW5 : W.grownBy w5 none := grown_trans hW4 hg5 (.inr fun r e => by injection e with e; omega)
    have hr5 : RdB w5 A1 L := (hr1.kept (grown_none hw13 hg4)).keep hg5 (fun ad e er => by
      injection er with er
      have := hA1 ad e
      have := hw13.size
      omega)
    have hcv := run_text (P := Try.prog) w5 24 9 5 (l := X) c1 Try.underlying24 Try.underlying5 Try.underlying9 (HRX.out w5 hr5)
    rw [hXl.out] at hcv
    have hD1 := Done_any g (L.drop k, false) _ hR5
    have hH := RHash_any g (L.drop k, false) _ hR5
    go_wp2_with fail
    refine (Good_any g (L.drop k, false) _ hR5).mono ?_
    rintro e w' ⟨rfl, rfl⟩
    by_cases hk2 : k = L.length
    · rw [show (!(L.drop k, false).2 && (L.drop k, false).1.isEmpty) = true from by simp [hk2]] at hD1
      rw [show rHash (L.drop k, false) = (List.replicate 32 0, ([], true)) from by unfold rHash; rw [if_pos (by rw [List.length_drop]; omega)], zeroH] at hH
      have hq : ((k : Int) == (L.length : Int)) = true := by rw [hk2]; simp
      have h32 : decide ((32 : Int) ≤ (L.length : Int) - (k : Int)) = false := by rw [decide_eq_false_iff_not]; omega
      have HD1 := Lib.hid hD1
      have HH := Lib.hid hH
      clear hD1 hH hk2
      go_wp2_with fail
      refine HD1.out.mono ?_
      rintro e w' ⟨rfl, rfl⟩
      go_wp2_with fail
      refine HH.out.mono ?_
      rintro e w6 ⟨rfl, hR6, hg6⟩
      have hW6 : W.grownBy w6 none := grown_trans hW5 hg6 (.inr fun r e => by injection e with e; omega)
      have hg67 : w6.grownBy ((w6.alloc (.cells #[Value.int .u8 0, Value.int .u8 0, Value.int .u8 0, Value.int .u8 0, Value.int .u8 0, Value.int .u8 0, Value.int .u8 0, Value.int .u8 0, Value.int .u8 0, Value.int .u8 0, Value.int .u8 0, Value.int .u8 0, Value.int .u8 0, Value.int .u8 0, Value.int .u8 0, Value.int .u8 0, Value.int .u8 0, Value.int .u8 0, Value.int .u8 0, Value.int .u8 0, Value.int .u8 0, Value.int .u8 0, Value.int .u8 0, Value.int .u8 0, Value.int .u8 0, Value.int .u8 0, Value.int .u8 0, Value.int .u8 0, Value.int .u8 0, Value.int .u8 0, Value.int .u8 0, Value.int .u8 0] 33)).setRow w6.heap.size #[Value.int .u8 0, Value.int .u8 0, Value.int .u8 0, Value.int .u8 0, Value.int .u8 0, Value.int .u8 0, Value.int .u8 0, Value.int .u8 0, Value.int .u8 0, Value.int .u8 0, Value.int .u8 0, Value.int .u8 0, Value.int .u8 0, Value.int .u8 0, Value.int .u8 0, Value.int .u8 0, Value.int .u8 0, Value.int .u8 0, Value.int .u8 0, Value.int .u8 0, Value.int .u8 0, Value.int .u8 0, Value.int .u8 0, Value.int .u8 0, Value.int .u8 0, Value.int .u8 0, Value.int .u8 0, Value.int .u8 0, Value.int .u8 0, Value.int .u8 0, Value.int .u8 0, Value.int .u8 0]) none := grown_setRow (grown_alloc (grown_refl _ _) _) (.inr (Nat.le_refl _)) _
      have hb7 := setRow_heap (w6.alloc (.cells #[Value.int .u8 0, Value.int .u8 0, Value.int .u8 0, Value.int .u8 0, Value.int .u8 0, Value.int .u8 0, Value.int .u8 0, Value.int .u8 0, Value.int .u8 0, Value.int .u8 0, Value.int .u8 0, Value.int .u8 0, Value.int .u8 0, Value.int .u8 0, Value.int .u8 0, Value.int .u8 0, Value.int .u8 0, Value.int .u8 0, Value.int .u8 0, Value.int .u8 0, Value.int .u8 0, Value.int .u8 0, Value.int .u8 0, Value.int .u8 0, Value.int .u8 0, Value.int .u8 0, Value.int .u8 0, Value.int .u8 0, Value.int .u8 0, Value.int .u8 0, Value.int .u8 0, Value.int .u8 0] 33)) w6.heap.size _ #[Value.int .u8 0, Value.int .u8 0, Value.int .u8 0, Value.int .u8 0, Value.int .u8 0, Value.int .u8 0, Value.int .u8 0, Value.int .u8 0, Value.int .u8 0, Value.int .u8 0, Value.int .u8 0, Value.int .u8 0, Value.int .u8 0, Value.int .u8 0, Value.int .u8 0, Value.int .u8 0, Value.int .u8 0, Value.int .u8 0, Value.int .u8 0, Value.int .u8 0, Value.int .u8 0, Value.int .u8 0, Value.int .u8 0, Value.int .u8 0, Value.int .u8 0, Value.int .u8 0, Value.int .u8 0, Value.int .u8 0, Value.int .u8 0, Value.int .u8 0, Value.int .u8 0, Value.int .u8 0] _ _ (heap_alloc_new _ _)
      obtain ⟨w7, hw7⟩ : ∃ w7, w7 = (w6.alloc (.cells #[Value.int .u8 0, Value.int .u8 0, Value.int .u8 0, Value.int .u8 0, Value.int .u8 0, Value.int .u8 0, Value.int .u8 0, Value.int .u8 0, Value.int .u8 0, Value.int .u8 0, Value.int .u8 0, Value.int .u8 0, Value.int .u8 0, Value.int .u8 0, Value.int .u8 0, Value.int .u8 0, Value.int .u8 0, Value.int .u8 0, Value.int .u8 0, Value.int .u8 0, Value.int .u8 0, Value.int .u8 0, Value.int .u8 0, Value.int .u8 0, Value.int .u8 0, Value.int .u8 0, Value.int .u8 0, Value.int .u8 0, Value.int .u8 0, Value.int .u8 0, Value.int .u8 0, Value.int .u8 0] 33)).setRow w6.heap.size #[Value.int .u8 0, Value.int .u8 0, Value.int .u8 0, Value.int .u8 0, Value.int .u8 0, Value.int .u8 0, Value.int .u8 0, Value.int .u8 0, Value.int .u8 0, Value.int .u8 0, Value.int .u8 0, Value.int .u8 0, Value.int .u8 0, Value.int .u8 0, Value.int .u8 0, Value.int .u8 0, Value.int .u8 0, Value.int .u8 0, Value.int .u8 0, Value.int .u8 0, Value.int .u8 0, Value.int .u8 0, Value.int .u8 0, Value.int .u8 0, Value.int .u8 0, Value.int .u8 0, Value.int .u8 0, Value.int .u8 0, Value.int .u8 0, Value.int .u8 0, Value.int .u8 0, Value.int .u8 0] := ⟨_, rfl⟩
      rw [← hw7] at hg67 hb7
      have hR7 := hR6.kept hg67
      have HW7 := Lib.hid hw7
      clear hw7
      have hze := zeroH_eq
      go_wp2_with (first | (refine wpList_store_row rfl 33 _ _ rfl w6.heap.size #[Value.int .u8 0, Value.int .u8 0, Value.int .u8 0, Value.int .u8 0, Value.int .u8 0, Value.int .u8 0, Value.int .u8 0, Value.int .u8 0, Value.int .u8 0, Value.int .u8 0, Value.int .u8 0, Value.int .u8 0, Value.int .u8 0, Value.int .u8 0, Value.int .u8 0, Value.int .u8 0, Value.int .u8 0, Value.int .u8 0, Value.int .u8 0, Value.int .u8 0, Value.int .u8 0, Value.int .u8 0, Value.int .u8 0, Value.int .u8 0, Value.int .u8 0, Value.int .u8 0, Value.int .u8 0, Value.int .u8 0, Value.int .u8 0, Value.int .u8 0, Value.int .u8 0, Value.int .u8 0] rfl rfl 33 _ (heap_alloc_new _ _) (by exact size_hash) (by rfl) zeroH_one ?_; rw [← HW7.out]) | (go_at_call 13; refine (Good_any g ([], true) _ hR7).mono ?_; rintro e w' ⟨rfl, rfl⟩) | (refine wpList_load_row_g (by rfl) 33 _ rfl w6.heap.size rfl 33 _ (0, 0) _ hb7 Try.underlying33 rfl (by exact size_hash) ?_) | (go_at_call 3; refine (VintRuns_any _).mono ?_; rintro e w8 ⟨rfl, hg8⟩))
      go_ret
      exact ⟨rfl, grown_none (grown_none hW6 hg67) hg8⟩
    · rw [show (!(L.drop k, false).2 && (L.drop k, false).1.isEmpty) = false from by
        simp only [Bool.not_false, Bool.true_and, List.isEmpty_eq_false_iff, ne_eq, List.drop_eq_nil_iff]; omega] at hD1
      have hq : ((k : Int) == (L.length : Int)) = false := by rw [beq_eq_false_iff_ne]; omega
      have HD1 := Lib.hid hD1
      clear hD1 hk2
      by_cases h32n : L.length - k < 32
      · rw [show rHash (L.drop k, false) = (List.replicate 32 0, ([], true)) from by unfold rHash; rw [if_pos (by rw [List.length_drop]; omega)], zeroH] at hH
        have h32 : decide ((32 : Int) ≤ (L.length : Int) - (k : Int)) = false := by rw [decide_eq_false_iff_not]; omega
        have HH := Lib.hid hH
        clear hH h32n
        go_wp2_with fail
        refine HD1.out.mono ?_
        rintro e w' ⟨rfl, rfl⟩
        go_wp2_with fail
        refine HH.out.mono ?_
        rintro e w6 ⟨rfl, hR6, hg6⟩
        have hW6 : W.grownBy w6 none := grown_trans hW5 hg6 (.inr fun r e => by injection e with e; omega)
        have hg67 : w6.grownBy ((w6.alloc (.cells #[Value.int .u8 0, Value.int .u8 0, Value.int .u8 0, Value.int .u8 0, Value.int .u8 0, Value.int .u8 0, Value.int .u8 0, Value.int .u8 0, Value.int .u8 0, Value.int .u8 0, Value.int .u8 0, Value.int .u8 0, Value.int .u8 0, Value.int .u8 0, Value.int .u8 0, Value.int .u8 0, Value.int .u8 0, Value.int .u8 0, Value.int .u8 0, Value.int .u8 0, Value.int .u8 0, Value.int .u8 0, Value.int .u8 0, Value.int .u8 0, Value.int .u8 0, Value.int .u8 0, Value.int .u8 0, Value.int .u8 0, Value.int .u8 0, Value.int .u8 0, Value.int .u8 0, Value.int .u8 0] 33)).setRow w6.heap.size #[Value.int .u8 0, Value.int .u8 0, Value.int .u8 0, Value.int .u8 0, Value.int .u8 0, Value.int .u8 0, Value.int .u8 0, Value.int .u8 0, Value.int .u8 0, Value.int .u8 0, Value.int .u8 0, Value.int .u8 0, Value.int .u8 0, Value.int .u8 0, Value.int .u8 0, Value.int .u8 0, Value.int .u8 0, Value.int .u8 0, Value.int .u8 0, Value.int .u8 0, Value.int .u8 0, Value.int .u8 0, Value.int .u8 0, Value.int .u8 0, Value.int .u8 0, Value.int .u8 0, Value.int .u8 0, Value.int .u8 0, Value.int .u8 0, Value.int .u8 0, Value.int .u8 0, Value.int .u8 0]) none := grown_setRow (grown_alloc (grown_refl _ _) _) (.inr (Nat.le_refl _)) _
        have hb7 := setRow_heap (w6.alloc (.cells #[Value.int .u8 0, Value.int .u8 0, Value.int .u8 0, Value.int .u8 0, Value.int .u8 0, Value.int .u8 0, Value.int .u8 0, Value.int .u8 0, Value.int .u8 0, Value.int .u8 0, Value.int .u8 0, Value.int .u8 0, Value.int .u8 0, Value.int .u8 0, Value.int .u8 0, Value.int .u8 0, Value.int .u8 0, Value.int .u8 0, Value.int .u8 0, Value.int .u8 0, Value.int .u8 0, Value.int .u8 0, Value.int .u8 0, Value.int .u8 0, Value.int .u8 0, Value.int .u8 0, Value.int .u8 0, Value.int .u8 0, Value.int .u8 0, Value.int .u8 0, Value.int .u8 0, Value.int .u8 0] 33)) w6.heap.size _ #[Value.int .u8 0, Value.int .u8 0, Value.int .u8 0, Value.int .u8 0, Value.int .u8 0, Value.int .u8 0, Value.int .u8 0, Value.int .u8 0, Value.int .u8 0, Value.int .u8 0, Value.int .u8 0, Value.int .u8 0, Value.int .u8 0, Value.int .u8 0, Value.int .u8 0, Value.int .u8 0, Value.int .u8 0, Value.int .u8 0, Value.int .u8 0, Value.int .u8 0, Value.int .u8 0, Value.int .u8 0, Value.int .u8 0, Value.int .u8 0, Value.int .u8 0, Value.int .u8 0, Value.int .u8 0, Value.int .u8 0, Value.int .u8 0, Value.int .u8 0, Value.int .u8 0, Value.int .u8 0] _ _ (heap_alloc_new _ _)
        obtain ⟨w7, hw7⟩ : ∃ w7, w7 = (w6.alloc (.cells #[Value.int .u8 0, Value.int .u8 0, Value.int .u8 0, Value.int .u8 0, Value.int .u8 0, Value.int .u8 0, Value.int .u8 0, Value.int .u8 0, Value.int .u8 0, Value.int .u8 0, Value.int .u8 0, Value.int .u8 0, Value.int .u8 0, Value.int .u8 0, Value.int .u8 0, Value.int .u8 0, Value.int .u8 0, Value.int .u8 0, Value.int .u8 0, Value.int .u8 0, Value.int .u8 0, Value.int .u8 0, Value.int .u8 0, Value.int .u8 0, Value.int .u8 0, Value.int .u8 0, Value.int .u8 0, Value.int .u8 0, Value.int .u8 0, Value.int .u8 0, Value.int .u8 0, Value.int .u8 0] 33)).setRow w6.heap.size #[Value.int .u8 0, Value.int .u8 0, Value.int .u8 0, Value.int .u8 0, Value.int .u8 0, Value.int .u8 0, Value.int .u8 0, Value.int .u8 0, Value.int .u8 0, Value.int .u8 0, Value.int .u8 0, Value.int .u8 0, Value.int .u8 0, Value.int .u8 0, Value.int .u8 0, Value.int .u8 0, Value.int .u8 0, Value.int .u8 0, Value.int .u8 0, Value.int .u8 0, Value.int .u8 0, Value.int .u8 0, Value.int .u8 0, Value.int .u8 0, Value.int .u8 0, Value.int .u8 0, Value.int .u8 0, Value.int .u8 0, Value.int .u8 0, Value.int .u8 0, Value.int .u8 0, Value.int .u8 0] := ⟨_, rfl⟩
        rw [← hw7] at hg67 hb7
        have hR7 := hR6.kept hg67
        have HW7 := Lib.hid hw7
        clear hw7
        have hze := zeroH_eq
        go_wp2_with (first | (refine wpList_store_row rfl 33 _ _ rfl w6.heap.size #[Value.int .u8 0, Value.int .u8 0, Value.int .u8 0, Value.int .u8 0, Value.int .u8 0, Value.int .u8 0, Value.int .u8 0, Value.int .u8 0, Value.int .u8 0, Value.int .u8 0, Value.int .u8 0, Value.int .u8 0, Value.int .u8 0, Value.int .u8 0, Value.int .u8 0, Value.int .u8 0, Value.int .u8 0, Value.int .u8 0, Value.int .u8 0, Value.int .u8 0, Value.int .u8 0, Value.int .u8 0, Value.int .u8 0, Value.int .u8 0, Value.int .u8 0, Value.int .u8 0, Value.int .u8 0, Value.int .u8 0, Value.int .u8 0, Value.int .u8 0, Value.int .u8 0, Value.int .u8 0] rfl rfl 33 _ (heap_alloc_new _ _) (by exact size_hash) (by rfl) zeroH_one ?_; rw [← HW7.out]) | (go_at_call 13; refine (Good_any g ([], true) _ hR7).mono ?_; rintro e w' ⟨rfl, rfl⟩) | (refine wpList_load_row_g (by rfl) 33 _ rfl w6.heap.size rfl 33 _ (0, 0) _ hb7 Try.underlying33 rfl (by exact size_hash) ?_) | (go_at_call 3; refine (VintRuns_any _).mono ?_; rintro e w8 ⟨rfl, hg8⟩))
        go_ret
        exact ⟨rfl, grown_none (grown_none hW6 hg67) hg8⟩
      · obtain ⟨Y, hY⟩ : ∃ Y, Y = (L.drop k).take 32 := ⟨_, rfl⟩
        rw [show rHash (L.drop k, false) = (Y, ((L.drop k).drop 32, false)) from by unfold rHash; rw [if_neg (by rw [List.length_drop]; omega), hY]] at hH
        have HY : Hid (Y.length = 32) := by show _ = _; rw [hY, List.length_take, List.length_drop]; omega
        have h32 : (32 : Int) ≤ (L.length : Int) - (k : Int) := by omega
        have HH := Lib.hid hH
        clear hH h32n hY
        go_wp2_with fail
        refine HD1.out.mono ?_
        rintro e w' ⟨rfl, rfl⟩
        go_wp2_with fail
        refine HH.out.mono ?_
        rintro e w6 ⟨rfl, hR6, hg6⟩
        have hW6 : W.grownBy w6 none := grown_trans hW5 hg6 (.inr fun r e => by injection e with e; omega)
        have hg67 : w6.grownBy ((w6.alloc (.cells #[Value.int .u8 0, Value.int .u8 0, Value.int .u8 0, Value.int .u8 0, Value.int .u8 0, Value.int .u8 0, Value.int .u8 0, Value.int .u8 0, Value.int .u8 0, Value.int .u8 0, Value.int .u8 0, Value.int .u8 0, Value.int .u8 0, Value.int .u8 0, Value.int .u8 0, Value.int .u8 0, Value.int .u8 0, Value.int .u8 0, Value.int .u8 0, Value.int .u8 0, Value.int .u8 0, Value.int .u8 0, Value.int .u8 0, Value.int .u8 0, Value.int .u8 0, Value.int .u8 0, Value.int .u8 0, Value.int .u8 0, Value.int .u8 0, Value.int .u8 0, Value.int .u8 0, Value.int .u8 0] 33)).setRow w6.heap.size (Y.map bv).toArray) none := grown_setRow (grown_alloc (grown_refl _ _) _) (.inr (Nat.le_refl _)) _
        obtain ⟨w7, hw7⟩ : ∃ w7, w7 = (w6.alloc (.cells #[Value.int .u8 0, Value.int .u8 0, Value.int .u8 0, Value.int .u8 0, Value.int .u8 0, Value.int .u8 0, Value.int .u8 0, Value.int .u8 0, Value.int .u8 0, Value.int .u8 0, Value.int .u8 0, Value.int .u8 0, Value.int .u8 0, Value.int .u8 0, Value.int .u8 0, Value.int .u8 0, Value.int .u8 0, Value.int .u8 0, Value.int .u8 0, Value.int .u8 0, Value.int .u8 0, Value.int .u8 0, Value.int .u8 0, Value.int .u8 0, Value.int .u8 0, Value.int .u8 0, Value.int .u8 0, Value.int .u8 0, Value.int .u8 0, Value.int .u8 0, Value.int .u8 0, Value.int .u8 0] 33)).setRow w6.heap.size (Y.map bv).toArray := ⟨_, rfl⟩
        rw [← hw7] at hg67
        have hR7 := hR6.kept hg67
        have HW7 := Lib.hid hw7
        clear hw7
        go_wp2_with (first | (refine wpList_store_row rfl 33 _ _ rfl w6.heap.size (Y.map bv).toArray rfl rfl 33 _ (heap_alloc_new _ _) (by rw [List.size_toArray, List.length_map, HY.out]; exact size_hash) (by simp [HY.out]) (bv_all _) ?_; rw [← HW7.out]) | (go_at_call 13; refine (Good_any g ((L.drop k).drop 32, false) _ hR7).mono ?_; rintro e w' ⟨rfl, rfl⟩) | (go_at_call 3; refine (VintRuns_any _).mono ?_; rintro e w8 ⟨rfl, hg8⟩))
        go_ret
        exact ⟨rfl, grown_none (grown_none hW6 hg67) hg8⟩
-- THE ROW
set_option maxRecDepth 100000 in
theorem VintTexts_lifted (os : Os) (started : os.Started) (H : Type) (enc : TypeId × Value → H) :
    ReturnsInHanded {} Try.checked os 8 .any (Rows.vintTextsSpec.pre6 enc Try.prog Try.f8 Rows.vintTextsRow.domain false) (Rows.vintTextsSpec.post enc Try.prog Try.f8 false true false false) := by
  refine returnsInHanded_of_change (C := Try.checked) Try.own started (by kernel_rfl) Try.func8
    (ChangeSpec.witness6 (enc := enc) (C := Try.checked) false ⟨#[], #[.slice none 0 0, .int .i64 0], []⟩ 40 (by kernel_rfl) (by kernel_rfl) (by kernel_rfl) (by kernel_rfl)) ?_
  intro W base args ds gs before hval0 hW hcnd _
  have hW0 := hW
  have hval : ∀ (j : Nat) t v, Try.f8.params[j]? = some t → args[j]? = some v → Value.okWide Try.prog W .any base t v := hval0
  obtain ⟨p, q, hA0, hV, rfl, hfz, hnd⟩ := hW
  have hA : DataW.TrodAll enc Try.prog W 0 (fun _ => true) true Try.f8.params.toList args.toList ds p := hA0
  rw [Try.params8] at hA hval
  obtain ⟨v0, vs0, d0, ds0, p0, q0, hargs, rfl, rfl, h0, r0⟩ := trodAll_cons hA
  obtain ⟨v1, vs1, d1, ds1, p1, q1, rfl, rfl, rfl, h1, r1⟩ := trodAll_cons r0
  obtain ⟨rfl, rfl, rfl⟩ := trodAll_nil r1
  obtain ⟨xs⟩ := args
  simp only at hargs
  subst hargs
  obtain ⟨rfl, rfl⟩ := trodVars_none hV
  obtain ⟨A0, l0, c0, rfl, hc0, hm0, hr0⟩ := arg_bytes Try.underlying24 Try.underlying5 (by kernel_rfl) (hval 0 _ _ rfl rfl) h0
  obtain ⟨n1, rfl, hlo1, hhi1⟩ := arg_int Try.underlying3 (hval 1 _ _ rfl rfl) h1
  refine (VintTexts_any A0 l0 c0 n1 W hr0 hc0 hm0).mono fun e W' ⟨he, hg⟩ => ?_
  subst he
  exact ⟨_, rfl, law_post Try.laidOut (by kernel_rfl) rfl Try.underlying4 rfl rfl hW0 hg⟩

theorem VintTexts_holds : Rows.VintTextsSaid :=
  OpenClaim.holds_of_wide 8 Try.f8 rfl rfl rfl rfl rfl rfl rfl ⟨rfl, rfl, rfl, rfl, rfl⟩ rfl rfl rfl rfl rfl (by kernel_rfl) Try.func8 (by kernel_rfl)
    (of_decide_eq_true (by kernel_rfl)) (by unfold Func.isWrapper; first | (rw [if_pos (by decide +kernel)]; kernel_rfl) | (rw [if_neg (by decide +kernel)]; exact ⟨rfl, rfl⟩))
    (fun os started H enc _ => VintTexts_lifted os started H enc)
end Go.Proofs.Ythccbbdabfpjcaa
