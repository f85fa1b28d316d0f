/- Chapter 6's runs. -/
import Derived.Test.YtehbhjkceemmcaaKvI
namespace Go.Proofs.Ytehbhjkceemmcaa
open Go.RowKit

def kvR : List Kv := [([97], []), ([98], []), ([99], [])]
theorem kvR_set : setL [([97], []), ([99], [])] ([98], []) = kvR := by decide
theorem kvR_ok : okL [([97], []), ([99], [])] ([98], []) = true := by decide
theorem kvR_rises : Rises kvR := by unfold Rises kvR; decide
theorem kvR_rises0 : Rises [([97], []), ([99], [])] := by unfold Rises; decide
theorem kvR_range : rangeL kvR [97] [99] = [([97], []), ([98], [])] := by decide
theorem kvR_del : delL kvR [97] = [([98], []), ([99], [])] := by decide
theorem kvR_low : lowN kvR [98, 98] = 2 := by decide
theorem kvR_right : rightL kvR = true := by decide

set_option maxRecDepth 100000 in
set_option maxHeartbeats 1000000 in
theorem KvRuns_any (w : World) : Calls Try.prog 3 #[] w fun e w' => e = .returned (.bool true) ∧ w.grownBy w' none := by
  have gs := eql_str
  have ts : ∀ l : List UInt8, (ByteArray.mk l.toArray).toList = l := fun l => Lib.toList_data _
  obtain ⟨w0, hw0⟩ : ∃ w0, w.alloc (.cells #[.string ⟨#[97]⟩, .string ⟨#[]⟩, .string ⟨#[99]⟩, .string ⟨#[]⟩] 26) = w0 := ⟨_, rfl⟩
  have hg0 : w.grownBy w0 none := by rw [← hw0]; exact grown_alloc (grown_refl _ _) _
  have hr0 : RdQ w0 (some ⟨w.heap.size, 0, none⟩) [([97], []), ([99], [])] := by
    rw [← hw0]
    exact rd_row (cs := qcs [([97], []), ([99], [])]) (heap_alloc_new w _)
  have hset := Set_any (some ⟨w.heap.size, 0, none⟩) 2 [([97], []), ([99], [])] ([98], []) w0 hr0 (by simp) (by simp) kvR_rises0
  rw [kvR_ok, if_pos rfl, kvR_set] at hset
  have HW := Lib.hid hw0
  clear hw0 hr0
  go_enter Try.func3, Try.ntmps3
  go_wp2_with (first
    | (go_at_call 7; rw [HW.out]; refine hset.mono ?_; rintro e w1 ⟨v1, rfl, hp1, hg1⟩; obtain ⟨A, c, rfl, hc, hr, -⟩ := hp1.form; obtain ⟨ad, rfl, hb1, -⟩ := RdQ.get hr (k := 1) (by decide); have hb2 : w1.cell? ⟨ad.block, ad.off + 2, none⟩ = some (.string ⟨#[98]⟩) := hb1; clear hb1)
    | (go_at_call 8; refine (Range_any (some ad) c kvR [97] [99] w1 hr hc (by decide) kvR_rises).mono ?_; rintro e w2 ⟨v2, rfl, hp2, hg2⟩; rw [kvR_range] at hp2; obtain ⟨A2, c2, rfl, -⟩ := hp2.form)
    | (go_at_call 9; refine (Del_any (some ad) c kvR [97] w2 (RdAt.kept hr hg2) hc (by decide) kvR_rises).mono ?_; rintro e w3 ⟨v3, rfl, hp3, hg3⟩; rw [kvR_del] at hp3; obtain ⟨A3, c3, rfl, -⟩ := hp3.form)
    | (go_at_call 10; refine (First_any (some ad) c kvR [98, 98] w3 (RdAt.kept (RdAt.kept hr hg2) hg3) (by decide) kvR_rises).mono ?_; rw [kvR_low]; rintro e w4 ⟨rfl, hg4⟩)
    | (go_at_call 11; refine (Right_any (some ad) c kvR w4 (RdAt.kept (RdAt.kept (RdAt.kept hr hg2) hg3) hg4) (by decide)).mono ?_; rw [kvR_right]; rintro e w5 ⟨rfl, hg5⟩))
  go_ret
  exact ⟨rfl, grown_none (grown_none (grown_none (grown_none (grown_none hg0 hg1) hg2) hg3) hg4) hg5⟩
end Go.Proofs.Ytehbhjkceemmcaa
