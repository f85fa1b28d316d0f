/- VintRuns: chapter 1's runs are true. -/
import Derived.Test.YthccbbdabfpjcaaRead2
namespace Go.Proofs.Ythccbbdabfpjcaa
open Go.RowKit

theorem putsL_300 : putsL [300] = [172, 2] := by simp [putsL, putL, putN, lowB]
theorem textsL_ab : textsL [[97, 98]] = [2, 97, 98] := by simp [textsL, textL, putL, putN]

theorem rd_new (w : World) (cs : Array Value) (t : TypeId) (xs : List Value) (h : cs.toList = xs) : RdAt (w.alloc (.cells cs t)) (some ⟨w.heap.size, 0, none⟩) xs := by
  subst h
  exact rd_row (heap_alloc_new w _)
theorem Put1_any (A : Option Addr) (c : Nat) (n : Int) (w : World) (hr : RdI w A [n]) :
    Calls Try.prog 12 #[.slice A 1 c] w fun e w' => ∃ v', e = .returned v' ∧ OwnB w' v' (putL n) ∧ Grew w w' (.slice none 0 0) v' := by
  refine (Put_any A c [n] w hr (by simp)).mono ?_
  rintro e w' ⟨v', rfl, h1, h2⟩
  exact ⟨v', rfl, by simpa [putsL] using h1, h2⟩
theorem rNum_128 : rNum ([128, 0], false) = (0, ([], true)) := by rfl
set_option maxHeartbeats 400000 in
theorem VintRuns_any (w : World) :
    Calls Try.prog 3 #[] w fun e w' => e = .returned (.bool true) ∧ w.grownBy w' none := by
  have hr0 := rdB_new w #[.int .u8 128, .int .u8 0] 5 [128, 0] rfl
  go_enter Try.func3, Try.ntmps3
  go_wp2_with fail
  refine (Read_any _ _ _ _ hr0 (by simp)).mono ?_
  rintro e w1 ⟨g, rfl, hgs, hR1, hg1⟩
  have hN := Number_any g ([128, 0], false) _ hR1
  rw [rNum_128] at hN
  have HN := Lib.hid hN
  clear hN
  go_wp2_with fail
  refine HN.out.mono ?_
  rintro e w2 ⟨rfl, hR2, hg2⟩
  go_wp2_with fail
  refine (Put_any _ _ [300] _ (rd_new _ _ _ _ rfl) (by simp)).mono ?_
  rintro e w3 ⟨v3, rfl, ho3, hg3⟩
  rw [putsL_300] at ho3
  obtain ⟨A3, c3, rfl, q1, q2, hr3⟩ := ho3.slice
  go_wp2_with fail
  refine (sameB_true _ _ [172, 2] [172, 2] _ _ _ _ _ (hr3.alloc _) (rdB_new _ _ _ _ rfl) rfl rfl (by simp [maxLen]) rfl).mono ?_
  rintro e w4 ⟨rfl, hg4⟩
  have hg24 : w2.grownBy w4 none := grown_none (grown_alloc (grown_none (grown_alloc (grown_refl _ _) _) hg3.nil) _) hg4
  have hR4 : IsR w4 g [] true := hR2.kept hg24
  go_wp2_with fail
  refine (Good_any g ([], true) _ hR4).mono ?_
  rintro e w' ⟨rfl, rfl⟩
  go_wp2_with fail
  refine (Text_any _ _ [[97, 98]] _ (rd_new _ _ _ _ rfl) (by simp) (by simp)).mono ?_
  rintro e w5 ⟨v5, rfl, ho5, hg5⟩
  rw [textsL_ab] at ho5
  obtain ⟨A5, c5, rfl, q5, q6, hr5⟩ := ho5.slice
  go_wp2_with fail
  refine (sameB_true _ _ [2, 97, 98] [2, 97, 98] _ _ _ _ _ (hr5.alloc _) (rdB_new _ _ _ _ rfl) rfl rfl (by simp [maxLen]) rfl).mono ?_
  rintro e w6 ⟨rfl, hg6⟩
  have hg46 : w4.grownBy w6 none := grown_none (grown_alloc (grown_none (grown_alloc (grown_refl _ _) _) hg5.nil) _) hg6
  go_wp2
  go_ret
  have ha : w.grownBy w1 none := grown_none (grown_alloc (grown_refl _ _) _) hg1
  have hb : w.grownBy w2 none := grown_trans ha hg2 (.inr fun r e => by injection e with e; simp at hgs; omega)
  exact ⟨rfl, grown_none (grown_none hb hg24) hg46⟩
end Go.Proofs.Ythccbbdabfpjcaa
