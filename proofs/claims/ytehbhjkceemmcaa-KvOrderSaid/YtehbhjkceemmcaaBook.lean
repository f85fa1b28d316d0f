/- The contracts of the book's own functions (are two lists the same; a number brought into bounds; a list with room, and is it as it was). -/
import Derived.Test.YtehbhjkceemmcaaRows
import Derived.Test.YtehbhjkceemmcaaKA
namespace Go.Proofs.Ytehbhjkceemmcaa
open Go.RowKit

theorem take_next {α : Type} {l1 l2 : List α} {k : Nat} (h1 : k < l1.length) (h2 : k < l2.length) (ht : l1.take k = l2.take k) (he : l1[k] = l2[k]) : l1.take (k + 1) = l2.take (k + 1) := by
  rw [List.take_succ_eq_append_getElem h1, List.take_succ_eq_append_getElem h2, ht, he]
theorem take_all {α : Type} {l1 l2 : List α} {k : Nat} (hl : l1.length = l2.length) (hk : ¬ k < l1.length) (ht : l1.take k = l2.take k) : l1 = l2 := by
  rw [List.take_of_length_le (by omega), List.take_of_length_le (by omega)] at ht; exact ht
theorem take_parts {α : Type} [DecidableEq α] {l1 l2 : List α} {k : Nat} (h1 : k < l1.length) (h2 : k < l2.length) (he : l1[k] ≠ l2[k]) : decide (l1 = l2) = false := by
  rw [decide_eq_false_iff_not]; rintro rfl; exact he rfl
theorem u8_of {a b : UInt8} (h : ((a.toNat : Int) != (b.toNat : Int)) = false) : a = b := by
  have h' : (a.toNat : Int) = (b.toNat : Int) := by simpa using h
  exact UInt8.toNat_inj.1 (by omega)
theorem u8_ne {a b : UInt8} (h : ((a.toNat : Int) != (b.toNat : Int)) = true) : a ≠ b := by
  rintro rfl; simp at h

set_option maxHeartbeats 400000 in
theorem sameB_any (A1 A2 : Option Addr) (l1 l2 : List UInt8) (c1 c2 : Nat) (w : World) (h1 : RdB w A1 l1) (h2 : RdB w A2 l2) (hm1 : l1.length ≤ maxLen) (hm2 : l2.length ≤ maxLen) :
    Calls Try.prog 21 #[.slice A1 l1.length c1, .slice A2 l2.length c2] w fun e w' => e = .returned (.bool (decide (l1 = l2))) ∧ w.grownBy w' none := by
  unfold maxLen at hm1 hm2
  by_cases hl : l1.length = l2.length
  · have hlb : ((l1.length : Int) != (l2.length : Int)) = false := by simp [hl]
    have HL := Lib.hid hl
    clear hl
    go_enter Try.func21, Try.ntmps21
    go_wp2
    go_loopw [5] (fun i wr => ∃ k n : Nat, k ≤ l1.length ∧ i = .int .i64 k ∧ l1.take k = l2.take k ∧ wr = w.drewN n) (fun i _ => l1.length - (intOf i).toNat)
    case atStart => exact ⟨0, 0, Nat.zero_le _, rfl, rfl, rfl⟩
    case round =>
      obtain ⟨k, n, hk, rfl, ht, rfl⟩ := hrel
      have HT := Lib.hid ht
      clear ht
      by_cases hlt : k < l1.length
      · obtain ⟨a1, rfl, hc1⟩ := h1.get hlt
        obtain ⟨a2, rfl, hc2⟩ := h2.get (k := k) (by rw [← HL.out]; exact hlt)
        have hlt2 : k < l2.length := by rw [← HL.out]; exact hlt
        go_wp2
        go_quiet (fail)
        go_wp2
        · have hne : ((l1[k].toNat : Int) != (l2[k].toNat : Int)) = true := by assumption
          go_ret
          exact ⟨ret_bool (take_parts hlt hlt2 (u8_ne hne)).symm, grown_drewN (grown_drewN (grown_refl _ _) _) _⟩
        · have hne : ((l1[k].toNat : Int) != (l2[k].toNat : Int)) = false := by assumption
          go_roundw
          case rel => exact ⟨k + 1, n + nq, by omega, by go_num, take_next hlt hlt2 HT.out (u8_of hne), rfl⟩
          case measure => simp [intOf]; omega
      · go_wp2
        go_ret
        exact ⟨ret_bool (by symm; rw [decide_eq_true_iff]; exact take_all HL.out hlt HT.out), grown_drewN (grown_refl _ _) _⟩
  · have hlb : ((l1.length : Int) != (l2.length : Int)) = true := by rw [bne_iff_ne]; omega
    go_enter Try.func21, Try.ntmps21
    go_wp2
    go_ret
    exact ⟨ret_bool (by symm; rw [decide_eq_false_iff_not]; rintro rfl; exact hl rfl), grown_refl _ _⟩

theorem sameB_true (A1 A2 : Option Addr) (l1 l2 : List UInt8) (n1 n2 c1 c2 : Nat) (w : World) (h1 : RdB w A1 l1) (h2 : RdB w A2 l2) (e1 : n1 = l1.length) (e2 : n2 = l2.length) (hm1 : l1.length ≤ maxLen) (he : l1 = l2) :
    Calls Try.prog 21 #[.slice A1 n1 c1, .slice A2 n2 c2] w fun e w' => e = .returned (.bool true) ∧ w.grownBy w' none := by
  subst he
  subst e1
  subst e2
  refine (sameB_any A1 A2 l1 l1 c1 c2 w h1 h2 hm1 hm1).mono ?_
  rintro e w' ⟨rfl, hg⟩
  exact ⟨ret_bool (by simp), hg⟩
end Go.Proofs.Ytehbhjkceemmcaa
