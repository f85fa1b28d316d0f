/- The contracts of the book's Roomy and Intact on bytes. -/
import Derived.Test.YtcooadmepkojfaaDoorBook
import Derived.Test.YtcooadmepkojfaaDoorTag
import Derived.Laws.MakeOwn
import Derived.Laws.CopyOwn
namespace Go.Proofs.YtcooadmepkojfaaDoor
open Go.RowKit

theorem make_bytes (n : Nat) (h : n ≤ 1000000100) (w : World) : (Instr.makeSlice 25 (.int .i64 (n : Int)) (.int .i64 (n : Int))).run Tryd.prog w = .ok (.slice (some ⟨w.heap.size, 0, none⟩) n n) (w.alloc (.cells (List.replicate n (Value.int .u8 0)).toArray 5)) := by
  obtain ⟨i, hi, hz, hs, hb⟩ := info_parts info_u8
  have := run_make (P := Tryd.prog) w 25 5 i (.int .u8 0) Tryd.underlying25 hi hz .i64 .i64 (n : Int) (n : Int) (by omega) (Int.le_refl _) (by rw [hb]; omega) (by omega)
  rw [hs, Int.toNat_natCast, made_bytes] at this
  exact this
theorem put_next (X : List Value) (x z : Value) (j : Nat) (h : j < 80) :
    ((X ++ List.replicate j x ++ List.replicate (80 - j) z).toArray).setIfInBounds (X.length + j) x = (X ++ List.replicate (j + 1) x ++ List.replicate (80 - (j + 1)) z).toArray := by
  apply Array.ext'
  obtain ⟨k, hk⟩ : ∃ k, 80 - j = k + 1 := ⟨80 - j - 1, by omega⟩
  have hk' : 80 - (j + 1) = k := by omega
  rw [hk, hk', List.replicate_succ, List.replicate_succ']
  simp only [Array.toList_setIfInBounds]
  rw [List.set_append_right _ _ (by simp)]
  simp
theorem ownV_at {w : World} {e : TypeId} {g : Nat} {cs : Array Value} {xs : List Value} {n : Nat} (hg : w.heap[g]? = some (.cells cs e (0, 0))) (h : cs.toList = xs) (hn : xs.length = n) (hm : n ≤ maxLen) : OwnV e w (.slice (some ⟨g, 0, none⟩) n n) xs := by
  have hs : cs.size = n := by rw [← Array.length_toList, h, hn]
  refine ⟨0, Nat.zero_le _, by simp [hn], .inr ⟨g, n, cs, by rw [hn], Nat.zero_le _, hg, by omega, hm, by omega, ?_⟩⟩
  rw [Nat.mul_one, List.take_of_length_le (by rw [h]; exact Nat.le_refl _), h]
theorem RoomyB_any (A : Option Addr) (l : List UInt8) (c : Nat) (mark : UInt8) (w : World) (hr : RdB w A l) (hl : l.length ≤ 10000000) :
    Calls Tryd.prog 11 #[.slice A l.length c, .int .u8 (mark.toNat : Int)] w fun e w' => ∃ v, e = .returned v ∧ OwnB w' v (l ++ List.replicate 80 mark) ∧ Grew w w' (.slice none 0 0) v := by
  have hmk := make_bytes (l.length + 80) (by omega) w
  rw [show ((l.length + 80 : Nat) : Int) = (l.length : Int) + 80 from by omega] at hmk
  obtain ⟨C, hC⟩ : ∃ C, C = List.replicate (l.length + 80) (Value.int .u8 0) := ⟨_, rfl⟩
  rw [← hC] at hmk
  have HC := Lib.hid hC
  clear hC
  have hpos : 0 < (l.map bv).length → (some ⟨w.heap.size, 0, none⟩ : Option Addr) = some ⟨w.heap.size, 0, none⟩ ∧ ∃ ad, A = some ad ∧ ∀ j v, (l.map bv)[j]? = some v → (w.alloc (.cells C.toArray 5)).cell? (ad.add j) = some v := by
    intro h
    refine ⟨rfl, ?_⟩
    rcases hr.alloc (.cells C.toArray 5) with e | ⟨ad, e, hc⟩
    · rw [e] at h; simp at h
    · exact ⟨ad, e, hc⟩
  have hCl : Hid (C.length = l.length + 80) := by show _ = _; rw [HC.out, List.length_replicate]
  have hb0 : Below w.heap.size w (w.alloc (.cells C.toArray 5)) := grown_below (grown_alloc (grown_refl _ _) _)
  go_enter Tryd.func11, Tryd.ntmps11
  go_wp2_with (refine wpList_copy_splice rfl _ _ 25 25 rfl 5 Tryd.underlying25 size_u8 (some ⟨w.heap.size, 0, none⟩) A (l.length + 80) (l.length + 80) l.length c rfl rfl w.heap.size 0 C 5 (heap_alloc_new _ _) (l.map bv) (by simp) hpos (by rw [hCl.out]; simp) (bv_one l) w.heap.size w hb0 (Nat.le_refl _) ?_)
  intro w1 hq hb1
  clear hmk hpos
  have hq1 : Hid (w1.heap[w.heap.size]? = some (.cells (l.map bv ++ List.replicate 0 (bv mark) ++ List.replicate (80 - 0) (bv 0)).toArray 5 (0, 0))) := by
    have := hq.out
    show _ = _
    rw [this, HC.out]
    simp [splice, bv]
  clear hq
  go_wp2
  go_loopw [6] (fun i wr => ∃ j : Nat, j ≤ 80 ∧ i = .int .i64 ((l.length : Int) + (j : Int)) ∧ Hid (wr.heap[w.heap.size]? = some (.cells (l.map bv ++ List.replicate j (bv mark) ++ List.replicate (80 - j) (bv 0)).toArray 5 (0, 0))) ∧ w.grownBy wr none) (fun i _ => l.length + 80 - (intOf i).toNat)
  case atStart => exact ⟨0, by omega, by simp, hq1, grown_of_below hb1⟩
  case round =>
    obtain ⟨j, hj, rfl, hq, hg⟩ := hrel
    by_cases hlt : j < 80
    · have hc : wr.cell? ⟨w.heap.size, l.length + j, none⟩ = some (bv 0) := by
        rw [cell_of_row wr w.heap.size _ _ _ _ hq.out]
        obtain ⟨k, hk⟩ : ∃ k, 80 - j = k + 1 := ⟨80 - j - 1, by omega⟩
        simp [hk, List.replicate_succ]
      have hf : wr.frozen? ⟨w.heap.size, l.length + j, none⟩ = false := frozen_of_row wr _ _ _ _ hq.out
      go_wp2
      go_roundw
      case rel => exact ⟨j + 1, by omega, by simp only [Value.int.injEq, true_and]; omega, by
        show _ = _
        exact heap_setCell_to hq.out (by have := put_next (l.map bv) (bv mark) (bv 0) j hlt; rwa [List.length_map] at this), grown_set hg (.inr (Nat.le_refl _)) _⟩
      case measure => simp [intOf]; omega
    · have hj80 : j = 80 := by omega
      subst hj80
      go_wp2
      go_ret
      exact ⟨_, rfl, ownV_at (w := wr) hq.out (by simp) (by simp) (by unfold maxLen; omega), hg, .inr ⟨w.heap.size, rfl, Nat.le_refl _⟩⟩

/-- .. it is. -/
theorem IntactB_any (A1 A2 : Option Addr) (l : List UInt8) (n1 c1 c2 : Nat) (mark : UInt8) (w : World) (h1 : RdB w A1 (l ++ List.replicate 80 mark)) (h2 : RdB w A2 l) (hn : n1 = l.length + 80) (hc : n1 ≤ c1) (hc1 : c1 ≤ maxLen) (hl : l.length ≤ 10000000) :
    Calls Tryd.prog 13 #[.slice A1 n1 c1, .slice A2 l.length c2, .int .u8 (mark.toNat : Int)] w fun e w' => e = .returned (.bool true) ∧ w.grownBy w' none := by
  have hc1' : c1 ≤ 9223372036854775807 := hc1
  have h1' : RdB w A1 l := by
    have := h1.take l.length
    simpa [RdB] using this
  have hs := sameB_true A1 A2 l l l.length l.length c1 c2 w h1' h2 rfl rfl (by unfold maxLen; omega) rfl
  have HS := Lib.hid hs
  clear hs
  have hnl : ((n1 : Int) != (l.length : Int) + 80) = false := by rw [bne_eq_false_iff_eq]; omega
  have hcl : l.length ≤ c1 := by omega
  have HN := Lib.hid hn
  clear hn
  go_enter Tryd.func13, Tryd.ntmps13
  go_wp2_with (go_at_call 21; refine HS.out.mono ?_; rintro e w1 ⟨rfl, hg1⟩)
  have hr1 : RdB w1 A1 (l ++ List.replicate 80 mark) := h1.kept hg1
  clear HS h1'
  go_loopw [7] (fun i wr => ∃ j : Nat, j ≤ 80 ∧ i = .int .i64 ((l.length : Int) + (j : Int)) ∧ w1.grownBy wr none) (fun i _ => l.length + 80 - (intOf i).toNat)
  case atStart => exact ⟨0, by omega, by simp, grown_refl _ _⟩
  case round =>
    obtain ⟨j, hj, rfl, hg⟩ := hrel
    by_cases hlt : j < 80
    · have hr : RdB wr A1 (l ++ List.replicate 80 mark) := hr1.kept hg
      obtain ⟨ad, hA, hc⟩ := hr.get (k := l.length + j) (by simp; omega)
      have hv : (l ++ List.replicate 80 mark)[l.length + j]'(by simp; omega) = mark := by
        rw [List.getElem_append_right (by omega)]; exact List.getElem_replicate _
      rw [hv] at hc
      subst hA
      have hn1 : ((l.length : Int) + (j : Int)) < (n1 : Int) := by have := HN.out; omega
      clear hv
      go_wp2
      go_roundw
      case rel => exact ⟨j + 1, by omega, by simp only [Value.int.injEq, true_and]; omega, hg⟩
      case measure => simp [intOf]; omega
    · have hj80 : j = 80 := by omega
      subst hj80
      have hn1 : ¬ ((l.length : Int) + ((80 : Nat) : Int)) < (n1 : Int) := by have := HN.out; omega
      go_wp2
      go_ret
      exact ⟨rfl, grown_none hg1 hg⟩
end Go.Proofs.YtcooadmepkojfaaDoor
