/- A length's eight bytes at the end of a row: the contract of package sha's putLength. -/
import Derived.Test.YtmfnncfiaaeknaaDoorEnds
namespace Go.Proofs.YtmfnncfiaaeknaaDoor
open Go.RowKit

theorem set_mid {α : Type} (A B : List α) (m v : α) (n : Nat) (h : A.length = n) : (A ++ m :: B).set n v = A ++ v :: B := by
  subst h; simp
theorem put_back (pre mid t post : List Value) (v : Value) (k : Nat) (h : k < mid.length) :
    ((pre ++ (mid.take (k + 1) ++ t) ++ post).toArray).setIfInBounds (pre.length + k) v = (pre ++ (mid.take k ++ v :: t) ++ post).toArray := by
  apply Array.ext'
  rw [Array.toList_setIfInBounds]
  have e : pre ++ (mid.take (k + 1) ++ t) ++ post = (pre ++ mid.take k) ++ mid[k] :: (t ++ post) := by
    rw [List.take_succ_eq_append_getElem h]; simp only [List.append_assoc, List.cons_append, List.nil_append]
  simp only [e]
  rw [set_mid _ _ _ _ _ (by rw [List.length_append, List.length_take]; omega)]
  simp
theorem get_back (pre mid t post : List Value) (k : Nat) (h : k < mid.length) : (pre ++ (mid.take (k + 1) ++ t) ++ post).toArray[pre.length + k]? = some mid[k] := by
  have e : pre ++ (mid.take (k + 1) ++ t) ++ post = (pre ++ mid.take k) ++ mid[k] :: (t ++ post) := by
    rw [List.take_succ_eq_append_getElem h]; simp only [List.append_assoc, List.cons_append, List.nil_append]
  rw [e, List.getElem?_toArray, List.getElem?_append_right (by rw [List.length_append, List.length_take]; omega)]
  have : pre.length + k - (pre ++ mid.take k).length = 0 := by rw [List.length_append, List.length_take]; omega
  rw [this]; rfl
theorem lenB_len (n : Nat) : (lenB n).length = 8 := by simp [lenB]
theorem lenB_drop (n k : Nat) (h : k < 8) : ((lenB n).map bv).drop k = bv (UInt8.ofNat (8 * n / 2 ^ (8 * (7 - k)))) :: ((lenB n).map bv).drop (k + 1) := by
  rw [List.drop_eq_getElem_cons (by simp [lenB_len]; exact h)]
  simp [lenB]
theorem len_val (n i : Nat) : ((n : Int) * 8) / 2 ^ (8 * i) % 256 = ((UInt8.ofNat (8 * n / 2 ^ (8 * i))).toNat : Int) := by
  rw [UInt8.toNat_ofNat', Nat.mul_comm 8 n]
  simp only [Int.natCast_emod, Int.natCast_ediv, Int.natCast_pow, Int.natCast_mul]
  rfl

set_option maxRecDepth 100000 in
set_option maxHeartbeats 1000000 in
theorem putLength_any (g L c n : Nat) (pre mid post : List Value) (t : TypeId) (w : World) (hL : L = pre.length + 8) (hm : mid.length = 8) (hq : w.heap[g]? = some (.cells (pre ++ mid ++ post).toArray t (0, 0))) (hn : n ≤ 1000000000000) (hL2 : L ≤ 1000000) :
    Calls Tryd.prog 51 #[.slice (some ⟨g, 0, none⟩) L c, .int .i64 (n : Int)] w fun e w' => e = .returned (.tuple #[]) ∧ w'.heap[g]? = some (.cells (pre ++ (lenB n).map bv ++ post).toArray t (0, 0)) ∧ w.grownBy w' (some g) := by
  have HL := Lib.hid hL
  have HM := Lib.hid hm
  have hq0 : Hid (w.heap[g]? = some (.cells (pre ++ (mid.take (8 - 0) ++ ((lenB n).map bv).drop (8 - 0)) ++ post).toArray t (0, 0))) := by
    show _ = _
    rw [hq, List.take_of_length_le (by omega), List.drop_of_length_le (by simp [lenB_len])]
    simp
  have L8 : 8 ≤ L := by omega
  clear hL hm hq
  go_enter Tryd.func51, Tryd.ntmps51
  go_wp2
  go_loopw [9] (fun i wr => ∃ k : Nat, k ≤ 8 ∧ i = .int .i64 k ∧ Hid (wr.heap[g]? = some (.cells (pre ++ (mid.take (8 - k) ++ ((lenB n).map bv).drop (8 - k)) ++ post).toArray t (0, 0))) ∧ w.grownBy wr (some g)) (fun i _ => 8 - (intOf i).toNat)
  case atStart => exact ⟨0, by omega, rfl, hq0, grown_refl _ _⟩
  case round =>
    obtain ⟨k, hk, rfl, hq, hg⟩ := hrel
    by_cases hlt : k < 8
    · obtain ⟨m, hmm⟩ : ∃ m, m = 7 - k := ⟨_, rfl⟩
      have hqq := hq.out
      rw [show 8 - k = m + 1 by omega] at hqq
      obtain ⟨u, hc⟩ : ∃ u, wr.cell? ⟨g, L - 1 - k, none⟩ = some u := by
        refine ⟨mid[m]'(by rw [HM.out]; omega), ?_⟩
        rw [cell_of_row wr _ _ _ _ _ hqq, show L - 1 - k = pre.length + m by have := HL.out; omega]
        exact get_back _ _ _ _ _ (by rw [HM.out]; omega)
      have hf : wr.frozen? ⟨g, L - 1 - k, none⟩ = false := frozen_of_row wr _ _ _ _ hqq
      have hv := len_val n k
      obtain ⟨y, hy⟩ : ∃ y, y = UInt8.ofNat (8 * n / 2 ^ (8 * k)) := ⟨_, rfl⟩
      rw [← hy] at hv
      have HY := Lib.hid hy
      have HQ := Lib.hid hqq
      have HMM := Lib.hid hmm
      clear hy hqq hmm
      go_wp2
      go_roundw
      case rel =>
        refine ⟨k + 1, by omega, by go_num, ?_, grown_set hg (.inl rfl) _⟩
        show _ = _
        refine heap_setCell_to HQ.out ?_
        have e1 : L - 1 - k = pre.length + m := by have := HL.out; have := HMM.out; omega
        have e2 : 8 - (k + 1) = m := by have := HMM.out; omega
        have e3 : bv (UInt8.ofNat (8 * n / 2 ^ (8 * (7 - m)))) = .int .u8 (y.toNat : Int) := by
          rw [HY.out, show 7 - m = k by have := HMM.out; omega]; rfl
        rw [e1, e2, put_back _ _ _ _ _ _ (by rw [HM.out]; have := HMM.out; omega), lenB_drop n m (by have := HMM.out; omega), e3]
      case measure => simp [intOf]; omega
    · have hk8 : k = 8 := by omega
      subst hk8
      have hqq := hq.out
      rw [Nat.sub_self, List.take_zero, List.drop_zero, List.nil_append] at hqq
      have HQ := Lib.hid hqq
      clear hqq
      go_wp2
      go_end0
      exact ⟨rfl, HQ.out, hg⟩
end Go.Proofs.YtmfnncfiaaeknaaDoor
