/- The law on depths and costs: its contract. -/
import Derived.Test.YtmfnncfiaaeknaaDoorTreeG
namespace Go.Proofs.YtmfnncfiaaeknaaDoor
open Go.RowKit

/-- How many doublings it takes to reach k. -/
theorem doubles (k : Nat) (h1 : 1 ≤ k) (h2 : k ≤ 200) : ∃ m : Nat, m ≤ 8 ∧ k ≤ 2 ^ m ∧ 2 ^ m < 2 * k := by
  by_cases hk : k = 1
  · exact ⟨0, by omega, by omega, by omega⟩
  · refine ⟨Nat.log2 (k - 1) + 1, ?_, ?_, ?_⟩
    · have := (Nat.log2_lt (n := k - 1) (k := 8) (by omega)).2 (by omega); omega
    · have := Nat.lt_log2_self (n := k - 1); omega
    · have := Nat.log2_self_le (n := k - 1) (by omega); rw [Nat.pow_succ]; omega

theorem dbl_lt {q m k : Nat} (hq : q < m) (h : 2 ^ m < 2 * k) : 2 ^ q < k := by
  have h1 : 2 ^ (q + 1) ≤ 2 ^ m := Nat.pow_le_pow_right (by decide) hq
  rw [Nat.pow_succ] at h1
  omega
theorem wrap_pow {q Q : Nat} (h : q ≤ 8) (hQ : Q = 2 ^ q) : wrap64 ((2 : Int) ^ q) = (Q : Int) := by
  have e : ((2 : Int) ^ q) = ((2 ^ q : Nat) : Int) := by simp
  have : 2 ^ q ≤ 2 ^ 8 := Nat.pow_le_pow_right (by decide) h
  rw [e, ← hQ]
  rw [← hQ] at this
  exact IntWalk.wrap64_in _ ⟨by omega, by omega⟩

set_option maxRecDepth 100000 in
set_option maxHeartbeats 2000000 in
theorem TreeDepths_any (n i : Int) (W0 : World) (hk : Laid2 W0) :
    Calls Tryd.prog 8 #[.int .i64 n, .int .i64 i] W0 fun e w' => e = .returned (.bool true) ∧ W0.grownBy w' none := by
  obtain ⟨k, hk1, hk2, hWk⟩ : ∃ k : Nat, 1 ≤ k ∧ k ≤ 200 ∧ ∀ w, Calls Tryd.prog 12 #[.int .i64 n, .int .i64 1, .int .i64 200] w fun e w' => e = .returned (.int .i64 (k : Int)) ∧ w = w' := by
    have hb := within_le (n := n) (lo := 1) (hi := 200) (by omega)
    refine ⟨(within n 1 200).toNat, by omega, by omega, fun w => ?_⟩
    refine (Within_any n 1 200 w (by omega) (by omega) (by omega)).mono ?_
    rintro e w' ⟨rfl, rfl⟩
    exact ⟨ret_int (by omega), rfl⟩
  obtain ⟨j, hj, hWj⟩ := Within_nat i (k - 1) (by omega)
  rw [show ((k - 1 : Nat) : Int) = (k : Int) - 1 by omega] at hWj
  obtain ⟨m, hm8, hm1, hm2⟩ := doubles k hk1 hk2
  have hd1 := depthN_le m k j hm1
  have hd2 := depthN_zero m k hm2 hm1
  have hd3 := depthN_le (m + 1) (2 * k) j (by rw [Nat.pow_succ]; omega)
  have c1 := fun w => Depth_any j k (by omega) (by omega) w
  have c2 : ∀ w, Calls Tryd.prog 20 #[.int .i64 0, .int .i64 (k : Int)] w fun e w' => e = .returned (.int .i64 (depthN 0 k : Int)) ∧ w' = w := fun w => Depth_any 0 k (by omega) (by omega) w
  have c3 := fun w => Depth_any j (2 * k) (by omega) (by omega) w
  have c4 := fun w => Depth_no (k : Int) (k : Int) (by omega) w
  have c5 := fun w => Depth_no (-1) (k : Int) (by omega) w
  have c6 := fun w => Depth_no 0 2097152 (by omega) w
  have c7 := fun w => Cost_n k hk1 (by omega) w
  have c8 := fun w => Cost_0 w
  have c9 := TreeRuns_any W0 hk
  rw [hd2] at c2
  rw [show ((2 * k : Nat) : Int) = 2 * (k : Int) by omega] at c3
  generalize depthN j k = d at c1 hd1
  generalize depthN j (2 * k) = d2 at c3 hd3
  clear hk hd2
  go_enter Tryd.func8, Tryd.ntmps8
  go_wp2_with (first
    | (go_at_call_of 12 (Value.int .i64 n); refine (hWk _).mono ?_; rintro e w1 ⟨rfl, rfl⟩)
    | (go_at_call_of 12 (Value.int .i64 i); refine (hWj _).mono ?_; rintro e w1 ⟨rfl, rfl⟩)
    | (go_at_call 20; refine (c1 _).mono ?_; rintro e w1 ⟨rfl, rfl⟩))
  go_loopw [8] (fun x wz => ∃ q : Nat, q ≤ m ∧ x = .int .i64 (q : Int) ∧ wz = w1) (fun x _ => m - (intOf x).toNat)
  case atStart => exact ⟨0, by omega, rfl, rfl⟩
  case round =>
    obtain ⟨q, hq, rfl, rfl⟩ := hrel
    obtain ⟨Q, hQ⟩ : ∃ Q : Nat, Q = 2 ^ q := ⟨_, rfl⟩
    have hwq := wrap_pow (by omega) hQ
    by_cases hlt : q < m
    · have hQk : (Q : Int) < (k : Int) := by rw [hQ]; exact_mod_cast dbl_lt hlt hm2
      clear hQ hm1 hm2 c1 c2 c3 c4 c5 c6 c7 c8 c9
      go_wp2_with fail
      go_roundw
      case rel => exact ⟨q + 1, by omega, by go_num, trivial⟩
      case measure => simp [intOf]; omega
    · obtain rfl : q = m := by omega
      have hQk : ¬ (Q : Int) < (k : Int) := by rw [hQ]; have := hm1; exact_mod_cast Nat.not_lt.2 this
      clear hQ hm1 hm2 c1 hlt hWk hWj
      go_wp2_with (first
        | (go_at_call 20; refine (c2 _).mono ?_; clear c2; rintro e w2 ⟨rfl, rfl⟩)
        | (go_at_call 20; refine (c3 _).mono ?_; clear c3; rintro e w2 ⟨rfl, rfl⟩)
        | (go_at_call 20; refine (c4 _).mono ?_; clear c4; rintro e w2 ⟨rfl, rfl⟩)
        | (go_at_call 20; refine (c5 _).mono ?_; clear c5; rintro e w2 ⟨rfl, rfl⟩)
        | (go_at_call 20; refine (c6 _).mono ?_; clear c6; rintro e w2 ⟨rfl, rfl⟩)
        | (go_at_call 18; refine (c7 _).mono ?_; clear c7; rintro e w2 ⟨rfl, rfl⟩)
        | (go_at_call 18; refine (c8 _).mono ?_; clear c8; rintro e w2 ⟨rfl, rfl⟩)
        | (go_at_call 4; refine c9.mono ?_; rintro e w3 ⟨rfl, hg3⟩))
      go_ret
      exact ⟨rfl, hg3⟩
end Go.Proofs.YtmfnncfiaaeknaaDoor
