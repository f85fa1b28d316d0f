/- Package kv's search, place, First, Get. -/
import Derived.Test.YtehbhjkceemmcaaKvB
namespace Go.Proofs.Ytehbhjkceemmcaa
open Go.RowKit

set_option maxHeartbeats 2000000 in
set_option maxRecDepth 100000 in
theorem Search_any (A : Option Addr) (c : Nat) (ps : List Kv) (k : List UInt8) (w : World) (hr : RdQ w A ps) (hn : ps.length ≤ 1000000000) (hs : Rises ps) :
    Calls Try.prog 31 #[.slice A ps.length c, .string ⟨k.toArray⟩, .func (.func 32) #[] #[]] w fun e w' => e = .returned (.tuple #[.int .i64 (lowN ps k : Nat), .bool (hasK ps k)]) ∧ w.grownBy w' none := by
  have H1 : Aside (∀ i (hl : i < ps.length), i < lowN ps k → kl ps[i].1 k = true) := fun i hl hi => below_low hs k hi hl
  have H2 : Aside (∀ i (hl : i < ps.length), lowN ps k ≤ i → kl ps[i].1 k = false) := fun i hl hi => above_low hs k hi hl
  have H3 : Aside (∀ hl : lowN ps k < ps.length, hasK ps k = decide (ps[lowN ps k].1 = k)) := fun hl => has_at hs k hl
  have H4 : Aside (¬ lowN ps k < ps.length → hasK ps k = false) := fun hl => has_end hs k hl
  have hN := lowN_le ps k
  clear hs
  generalize lowN ps k = N at *
  generalize hasK ps k = F at *
  go_enter Try.func31, Try.ntmps31
  go_wp2
  go_loopg [9, 10] ps.length (fun kx s9 s10 wr => ∃ lo hi : Nat, s9 = .int .i64 lo ∧ s10 = .int .i64 hi ∧ lo ≤ N ∧ N ≤ hi ∧ hi ≤ ps.length ∧ hi - lo ≤ kx ∧ w.grownBy wr none)
  case atStart => exact ⟨0, ps.length, rfl, rfl, by omega, hN, Nat.le_refl _, by omega, grown_refl _ _⟩
  case round =>
    obtain ⟨lo, hi, rfl, rfl, hlo, hhi, hin, hg, hw⟩ := hrel
    have hr' := hr.kept hw
    by_cases hlt : lo < hi
    · have hm : (lo + hi) / 2 < ps.length := by omega
      obtain ⟨ad, rfl, hc⟩ := RdQ.at hr' hm
      have H1' : Aside ((lo + hi) / 2 < N → kl ps[(lo + hi) / 2].1 k = true) := H1.out _ hm
      have H2' : Aside (N ≤ (lo + hi) / 2 → kl ps[(lo + hi) / 2].1 k = false) := H2.out _ hm
      generalize ps[(lo + hi) / 2] = y at hc H1' H2'
      have HC := Lib.hid hc
      clear hc
      by_cases hyx : Lib.compareBytes y.1 k < 0
      · have hle : (lo + hi) / 2 < N := by
          refine Nat.lt_of_not_le fun h => ?_
          have := H2'.out h
          rw [← cmp_lt] at this
          simp [hyx] at this
        go_wp2_with (first | (refine wpList_load_kv (by rfl) _ rfl (ad.add ((lo + hi) / 2 * 2)) rfl y HC.out ?_) | (go_at_call 32; refine (Against_any _ _ _).mono ?_; rintro e w1 ⟨rfl, hg1⟩))
        go_roundg (hi - ((lo + hi) / 2 + 1))
        case measure => omega
        case rel => exact ⟨(lo + hi) / 2 + 1, hi, by rw [show ((lo : Int) + (hi : Int)) / 2 + 1 = (((lo + hi) / 2 + 1 : Nat) : Int) by omega], rfl, hle, hhi, hin, Nat.le_refl _, grown_none hw hg1⟩
      · have hle : N ≤ (lo + hi) / 2 := by
          refine Nat.le_of_not_lt fun h => ?_
          have := H1'.out h
          rw [← cmp_lt] at this
          simp [hyx] at this
        go_wp2_with (first | (refine wpList_load_kv (by rfl) _ rfl (ad.add ((lo + hi) / 2 * 2)) rfl y HC.out ?_) | (go_at_call 32; refine (Against_any _ _ _).mono ?_; rintro e w1 ⟨rfl, hg1⟩))
        go_roundg ((lo + hi) / 2 - lo)
        case measure => omega
        case rel => exact ⟨lo, (lo + hi) / 2, rfl, by rw [show ((lo : Int) + (hi : Int)) / 2 = (((lo + hi) / 2 : Nat) : Int) by omega], hlo, hle, by omega, Nat.le_refl _, grown_none hw hg1⟩
    · obtain rfl : hi = lo := by omega
      obtain rfl : N = hi := by omega
      by_cases hlt2 : N < ps.length
      · obtain ⟨ad, rfl, hc⟩ := RdQ.at hr' hlt2
        have H3' : Aside (F = decide (ps[N].1 = k)) := H3.out hlt2
        generalize ps[N] = y at hc H3'
        have HC := Lib.hid hc
        clear hc
        have HE : Aside (F = decide (Lib.compareBytes y.1 k = 0)) := by show _ = _; rw [H3'.out, ← cmp_eq]
        by_cases hyx : Lib.compareBytes y.1 k = 0
        · go_wp2_with (first | (refine wpList_load_kv (by rfl) _ rfl (ad.add (N * 2)) rfl y HC.out ?_) | (go_at_call 32; refine (Against_any _ _ _).mono ?_; rintro e w1 ⟨rfl, hg1⟩))
          go_ret2
          exact ⟨by rw [HE.out]; simp [hyx], grown_none hw hg1⟩
        · go_wp2_with (first | (refine wpList_load_kv (by rfl) _ rfl (ad.add (N * 2)) rfl y HC.out ?_) | (go_at_call 32; refine (Against_any _ _ _).mono ?_; rintro e w1 ⟨rfl, hg1⟩))
          go_ret2
          exact ⟨by rw [HE.out]; simp [hyx], grown_none hw hg1⟩
      · go_wp2
        go_ret2
        exact ⟨by rw [H4.out hlt2]; rfl, hw⟩
end Go.Proofs.Ytehbhjkceemmcaa
