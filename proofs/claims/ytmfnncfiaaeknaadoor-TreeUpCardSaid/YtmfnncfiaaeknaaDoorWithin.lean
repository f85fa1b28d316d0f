/- A number brought into bounds: the contract of the book's Within. -/
import Derived.Test.YtmfnncfiaaeknaaDoorRows
import Derived.Test.YtmfnncfiaaeknaaDoorMem
namespace Go.Proofs.YtmfnncfiaaeknaaDoor
open Go.RowKit

theorem ret_bool {a b : Bool} (h : a = b) : Ending.returned (.bool a) = .returned (.bool b) := by rw [h]
theorem ret_int {k : IntKind} {a b : Int} (h : a = b) : Ending.returned (.int k a) = .returned (.int k b) := by rw [h]

/-- A number brought into bounds. -/
def within (n lo hi : Int) : Int := lo + n % (hi - lo + 1)
theorem within_le {n lo hi : Int} (h : lo ≤ hi) : lo ≤ within n lo hi ∧ within n lo hi ≤ hi := by
  have h1 := Int.emod_nonneg n (b := hi - lo + 1) (by omega)
  have h2 := Int.emod_lt_of_pos n (b := hi - lo + 1) (by omega)
  unfold within
  omega

theorem tmod_emod (n m : Int) (hm : 0 < m) : (0 ≤ n.tmod m → n % m = n.tmod m) ∧ (n.tmod m < 0 → n % m = n.tmod m + m) ∧ -m < n.tmod m ∧ n.tmod m < m := by
  have hlt := Int.tmod_lt_of_pos n hm
  have hgt : -m < n.tmod m := by
    have := Int.tmod_lt_of_pos (-n) hm
    rw [Int.neg_tmod] at this
    omega
  have hd := Int.mul_tdiv_add_tmod n m
  have hn : n = n.tmod m + m * n.tdiv m := by omega
  refine ⟨fun h => ?_, fun h => ?_, hgt, hlt⟩
  · have : n % m = (n.tmod m) % m := by conv => { lhs; rw [hn]; rw [Int.add_mul_emod_self_left] }
    rw [this, Int.emod_eq_of_lt h hlt]
  · have : n % m = (n.tmod m + m) % m := by conv => { lhs; rw [hn]; rw [Int.add_mul_emod_self_left] }; rw [Int.add_emod_right]
    rw [this, Int.emod_eq_of_lt (by omega) (by omega)]

set_option maxHeartbeats 400000 in
theorem Within_any (n lo hi : Int) (w : World) (h0 : 0 ≤ lo) (h1 : lo ≤ hi) (h2 : hi ≤ 1099511627775) :
    Calls Tryd.prog 12 #[.int .i64 n, .int .i64 lo, .int .i64 hi] w fun e w' => e = .returned (.int .i64 (within n lo hi)) ∧ w = w' := by
  obtain ⟨e1, e2, e3, e4⟩ := tmod_emod n (hi - lo + 1) (by omega)
  by_cases hneg : n.tmod (hi - lo + 1) < 0
  · have hE := Lib.hid (e2 hneg)
    clear e1 e2
    go_enter Tryd.func12, Tryd.ntmps12
    go_wp2
    go_ret
    exact ⟨ret_int (by unfold within; rw [hE.out]; omega), rfl⟩
  · have hE := Lib.hid (e1 (by omega))
    clear e1 e2
    go_enter Tryd.func12, Tryd.ntmps12
    go_wp2
    go_ret
    exact ⟨ret_int (by unfold within; rw [hE.out]), rfl⟩

/-- .. the number as a natural one, for bounds from 0 on. -/
theorem Within_nat (n : Int) (hi : Nat) (h2 : hi ≤ 1099511627775) : ∃ x : Nat, x ≤ hi ∧ ∀ w : World,
    Calls Tryd.prog 12 #[.int .i64 n, .int .i64 0, .int .i64 hi] w fun e w' => e = .returned (.int .i64 x) ∧ w = w' := by
  have hb := within_le (n := n) (lo := 0) (hi := hi) (by omega)
  refine ⟨(within n 0 hi).toNat, by omega, fun w => ?_⟩
  refine (Within_any n 0 hi w (by omega) (by omega) (by omega)).mono ?_
  rintro e w' ⟨rfl, rfl⟩
  exact ⟨ret_int (by omega), rfl⟩
end Go.Proofs.YtmfnncfiaaeknaaDoor
