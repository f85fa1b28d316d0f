/- A list of numbers with room behind it; is it as it was. -/
import Derived.Test.YthccbbdabfpjcaaRef
import Derived.Laws.MakeOwn
import Derived.Laws.CopyOwn
namespace Go.Proofs.Ythccbbdabfpjcaa
open Go.RowKit

theorem size_int : (Try.prog.info? 3).map (·.size) = some 1 := by kernel_rfl
theorem made_ints (n : Nat) : madeCells (Value.int .i64 0).cells (n * 1) = (List.replicate n (Value.int .i64 0)).toArray := by
  apply Array.ext'
  apply List.ext_getElem
  · simp [madeCells]
  · intro i h1 h2
    simp [madeCells, Value.cells, Nat.mod_one]
theorem make_ints (n : Nat) (h : n ≤ 1000000100) (w : World) : (Instr.makeSlice 30 (.int .i64 (n : Int)) (.int .i64 (n : Int))).run Try.prog w = .ok (.slice (some ⟨w.heap.size, 0, none⟩) n n) (w.alloc (.cells (List.replicate n (Value.int .i64 0)).toArray 3)) := by
  obtain ⟨i, hi, hz, hs, hb⟩ := info_parts info_int
  have := run_make (P := Try.prog) w 30 3 i (.int .i64 0) Try.underlying30 hi hz .i64 .i64 (n : Int) (n : Int) (by omega) (Int.le_refl _) (by rw [hb]; omega) (by omega)
  rw [hs, Int.toNat_natCast, made_ints] at this
  exact this
theorem put_next (X : List Value) (x z : Value) (j : Nat) (h : j < 80) :
    ((X ++ List.replicate j x ++ List.replicate (80 - j) z).toArray).setIfInBounds (X.length + j) x = (X ++ List.replicate (j + 1) x ++ List.replicate (80 - (j + 1)) z).toArray := by
  apply Array.ext'
  obtain ⟨k, hk⟩ : ∃ k, 80 - j = k + 1 := ⟨80 - j - 1, by omega⟩
  have hk' : 80 - (j + 1) = k := by omega
  rw [hk, hk', List.replicate_succ, List.replicate_succ']
  simp only [Array.toList_setIfInBounds]
  rw [List.set_append_right _ _ (by simp)]
  simp
theorem ownV_at {w : World} {e : TypeId} {g : Nat} {cs : Array Value} {xs : List Value} {n : Nat} (hg : w.heap[g]? = some (.cells cs e (0, 0))) (h : cs.toList = xs) (hn : xs.length = n) (hm : n ≤ maxLen) : OwnV e w (.slice (some ⟨g, 0, none⟩) n n) xs := by
  have hs : cs.size = n := by rw [← Array.length_toList, h, hn]
  refine ⟨0, Nat.zero_le _, by simp [hn], .inr ⟨g, n, cs, by rw [hn], Nat.zero_le _, hg, by omega, hm, by omega, ?_⟩⟩
  rw [Nat.mul_one, List.take_of_length_le (by rw [h]; exact Nat.le_refl _), h]
theorem RoomyI_any (A : Option Addr) (l : List Int) (c : Nat) (mark : Int) (w : World) (hr : RdI w A l) (hl : l.length ≤ 10000000) :
    Calls Try.prog 17 #[.slice A l.length c, .int .i64 mark] w fun e w' => ∃ v, e = .returned v ∧ OwnI w' v (l ++ List.replicate 80 mark) ∧ Grew w w' (.slice none 0 0) v := by
  have hmk := make_ints (l.length + 80) (by omega) w
  rw [show ((l.length + 80 : Nat) : Int) = (l.length : Int) + 80 from by omega] at hmk
  obtain ⟨C, hC⟩ : ∃ C, C = List.replicate (l.length + 80) (Value.int .i64 0) := ⟨_, rfl⟩
  rw [← hC] at hmk
  have HC := Lib.hid hC
  clear hC
  have hpos : 0 < (l.map iv).length → (some ⟨w.heap.size, 0, none⟩ : Option Addr) = some ⟨w.heap.size, 0, none⟩ ∧ ∃ ad, A = some ad ∧ ∀ j v, (l.map iv)[j]? = some v → (w.alloc (.cells C.toArray 3)).cell? (ad.add j) = some v := by
    intro h
    refine ⟨rfl, ?_⟩
    rcases hr.alloc (.cells C.toArray 3) with e | ⟨ad, e, hc⟩
    · rw [e] at h; simp at h
    · exact ⟨ad, e, hc⟩
  have hCl : Hid (C.length = l.length + 80) := by show _ = _; rw [HC.out, List.length_replicate]
  have hb0 : Below w.heap.size w (w.alloc (.cells C.toArray 3)) := grown_below (grown_alloc (grown_refl _ _) _)
  go_enter Try.func17, Try.ntmps17
  go_wp2_with (refine wpList_copy_splice rfl _ _ 30 30 rfl 3 Try.underlying30 size_int (some ⟨w.heap.size, 0, none⟩) A (l.length + 80) (l.length + 80) l.length c rfl rfl w.heap.size 0 C 3 (heap_alloc_new _ _) (l.map iv) (by simp) hpos (by rw [hCl.out]; simp) (iv_one l) w.heap.size w hb0 (Nat.le_refl _) ?_)
  intro w1 hq hb1
  clear hmk hpos
  have hq1 : Hid (w1.heap[w.heap.size]? = some (.cells (l.map iv ++ List.replicate 0 (iv mark) ++ List.replicate (80 - 0) (iv 0)).toArray 3 (0, 0))) := by
    have := hq.out
    show _ = _
    rw [this, HC.out]
    simp [splice, iv]
  clear hq
  go_wp2
  go_loopw [6] (fun i wr => ∃ j : Nat, j ≤ 80 ∧ i = .int .i64 ((l.length : Int) + (j : Int)) ∧ Hid (wr.heap[w.heap.size]? = some (.cells (l.map iv ++ List.replicate j (iv mark) ++ List.replicate (80 - j) (iv 0)).toArray 3 (0, 0))) ∧ w.grownBy wr none) (fun i _ => l.length + 80 - (intOf i).toNat)
  case atStart => exact ⟨0, by omega, by simp, hq1, grown_of_below hb1⟩
  case round =>
    obtain ⟨j, hj, rfl, hq, hg⟩ := hrel
    by_cases hlt : j < 80
    · have hc : wr.cell? ⟨w.heap.size, l.length + j, none⟩ = some (iv 0) := by
        rw [cell_of_row wr w.heap.size _ _ _ _ hq.out]
        obtain ⟨k, hk⟩ : ∃ k, 80 - j = k + 1 := ⟨80 - j - 1, by omega⟩
        simp [hk, List.replicate_succ]
      have hf : wr.frozen? ⟨w.heap.size, l.length + j, none⟩ = false := frozen_of_row wr _ _ _ _ hq.out
      go_wp2
      go_roundw
      case rel => exact ⟨j + 1, by omega, by simp only [Value.int.injEq, true_and]; omega, by
        show _ = _
        exact heap_setCell_to hq.out (by have := put_next (l.map iv) (iv mark) (iv 0) j hlt; rwa [List.length_map] at this), grown_set hg (.inr (Nat.le_refl _)) _⟩
      case measure => simp [intOf]; omega
    · have hj80 : j = 80 := by omega
      subst hj80
      go_wp2
      go_ret
      exact ⟨_, rfl, ownV_at (w := wr) hq.out (by simp) (by simp) (by unfold maxLen; omega), hg, .inr ⟨w.heap.size, rfl, Nat.le_refl _⟩⟩

/-- .. it is. -/
theorem IntactI_any (A1 A2 : Option Addr) (l : List Int) (n1 c1 c2 : Nat) (mark : Int) (w : World) (h1 : RdI w A1 (l ++ List.replicate 80 mark)) (h2 : RdI w A2 l) (hn : n1 = l.length + 80) (hc : n1 ≤ c1) (hc1 : c1 ≤ maxLen) (hl : l.length ≤ 10000000) :
    Calls Try.prog 18 #[.slice A1 n1 c1, .slice A2 l.length c2, .int .i64 mark] w fun e w' => e = .returned (.bool true) ∧ w.grownBy w' none := by
  have hc1' : c1 ≤ 9223372036854775807 := hc1
  have h1' : RdI w A1 l := by
    have := h1.take l.length
    simpa [RdI] using this
  have hs := sameI_true A1 A2 l c1 c2 w h1' h2 (by unfold maxLen; omega)
  have HS := Lib.hid hs
  clear hs
  have hnl : ((n1 : Int) != (l.length : Int) + 80) = false := by rw [bne_eq_false_iff_eq]; omega
  have hcl : l.length ≤ c1 := by omega
  have HN := Lib.hid hn
  clear hn
  go_enter Try.func18, Try.ntmps18
  go_wp2_with (go_at_call 29; refine HS.out.mono ?_; rintro e w1 ⟨rfl, hg1⟩)
  have hr1 : RdI w1 A1 (l ++ List.replicate 80 mark) := h1.kept hg1
  clear HS h1'
  go_loopw [7] (fun i wr => ∃ j : Nat, j ≤ 80 ∧ i = .int .i64 ((l.length : Int) + (j : Int)) ∧ w1.grownBy wr none) (fun i _ => l.length + 80 - (intOf i).toNat)
  case atStart => exact ⟨0, by omega, by simp, grown_refl _ _⟩
  case round =>
    obtain ⟨j, hj, rfl, hg⟩ := hrel
    by_cases hlt : j < 80
    · have hr : RdI wr A1 (l ++ List.replicate 80 mark) := hr1.kept hg
      obtain ⟨ad, hA, hc⟩ := hr.get (k := l.length + j) (by simp; omega)
      have hv : (l ++ List.replicate 80 mark)[l.length + j]'(by simp; omega) = mark := by
        rw [List.getElem_append_right (by omega)]; exact List.getElem_replicate _
      rw [hv] at hc
      subst hA
      have hn1 : ((l.length : Int) + (j : Int)) < (n1 : Int) := by have := HN.out; omega
      clear hv
      go_wp2
      go_roundw
      case rel => exact ⟨j + 1, by omega, by simp only [Value.int.injEq, true_and]; omega, hg⟩
      case measure => simp [intOf]; omega
    · have hj80 : j = 80 := by omega
      subst hj80
      have hn1 : ¬ ((l.length : Int) + ((80 : Nat) : Int)) < (n1 : Int) := by have := HN.out; omega
      go_wp2
      go_ret
      exact ⟨rfl, grown_none hg1 hg⟩
end Go.Proofs.Ythccbbdabfpjcaa
