/- How many leaves the left part has: the program's leftSize (by math/bits), the document's half; what a root costs. -/
import Derived.Test.YtmfnncfiaaeknaaDoorTreeL
import Derived.Lib.BitFns
namespace Go.Proofs.YtmfnncfiaaeknaaDoor
open Go.RowKit

theorem bitLen_log2 (x : Nat) (h1 : 1 ≤ x) (h2 : x < 512) : Lib.bitLen x = Nat.log2 x + 1 := by
  have h : ∀ y : Fin 512, 1 ≤ y.val → Lib.bitLen y.val = Nat.log2 y.val + 1 := by decide +kernel
  exact h ⟨x, h2⟩ h1

set_option maxHeartbeats 4000000 in
set_option maxRecDepth 100000 in
theorem Len64_lo (x : Int) (h0 : 0 ≤ x) (h1 : x ≤ 255) (w : World) :
    Calls Tryd.prog 48 #[.int .u64 x] w fun e w' => e = .returned (.int .i64 (Lib.bitLen x.toNat)) ∧ w' = w := by
  have el := Lib.hid (Lib.len8_of x h0 h1)
  have l := Lib.hid (Lib.bitLen_le8' x h0 h1)
  go_enter Tryd.func48, Tryd.ntmps48
  go_wp2
  go_ret
  refine ⟨congrArg Ending.returned (congrArg (Value.int IntKind.i64) ?_), rfl⟩
  have e1 := el.out
  have e2 := l.out
  have e3 : wrap64 (Lib.bitLen x.toNat : Int) = (Lib.bitLen x.toNat : Int) := IntWalk.wrap64_in _ ⟨by omega, by omega⟩
  rw [e1, e3, e3]
set_option maxHeartbeats 4000000 in
set_option maxRecDepth 100000 in
theorem Len64_hi (x : Int) (h0 : 256 ≤ x) (h1 : x ≤ 511) (w : World) :
    Calls Tryd.prog 48 #[.int .u64 x] w fun e w' => e = .returned (.int .i64 (Lib.bitLen x.toNat)) ∧ w' = w := by
  have h2 : 0 ≤ x / 256 := by omega
  have h3 : x / 256 ≤ 255 := by omega
  have el := Lib.hid (Lib.len8_of (x / 256) h2 h3)
  have l := Lib.hid (Lib.bitLen_le8' (x / 256) h2 h3)
  have sh := Lib.hid (Lib.bitLen_shift8 x.toNat (by omega) (by omega))
  go_enter Tryd.func48, Tryd.ntmps48
  go_wp2
  go_ret
  refine ⟨congrArg Ending.returned (congrArg (Value.int IntKind.i64) ?_), rfl⟩
  have e1 := el.out
  have e2 := l.out
  have e3 := sh.out
  have e : (x / 256).toNat = x.toNat / 256 := by omega
  rw [e] at e1 e2
  have e4 : wrap64 (Lib.bitLen (x.toNat / 256) : Int) = (Lib.bitLen (x.toNat / 256) : Int) := IntWalk.wrap64_in _ ⟨by omega, by omega⟩
  have e5 : wrap64 (8 + (Lib.bitLen (x.toNat / 256) : Int)) = 8 + (Lib.bitLen (x.toNat / 256) : Int) := IntWalk.wrap64_in _ ⟨by omega, by omega⟩
  rw [e3, e1, e4, e5]
  omega
theorem Len64_any (x : Nat) (h1 : 1 ≤ x) (h2 : x < 512) (w : World) :
    Calls Tryd.prog 48 #[.int .u64 (x : Int)] w fun e w' => e = .returned (.int .i64 ((Nat.log2 x + 1 : Nat) : Int)) ∧ w' = w := by
  have : Calls Tryd.prog 48 #[.int .u64 (x : Int)] w fun e w' => e = .returned (.int .i64 (Lib.bitLen (x : Int).toNat)) ∧ w' = w := by
    by_cases h : x ≤ 255
    · exact Len64_lo _ (by omega) (by omega) w
    · exact Len64_hi _ (by omega) (by omega) w
  rw [Int.toNat_natCast, bitLen_log2 x h1 h2] at this
  exact this

theorem Len_any (x : Nat) (h1 : 1 ≤ x) (h2 : x < 512) (w : World) :
    Calls Tryd.prog 43 #[.int .u64 (x : Int)] w fun e w' => e = .returned (.int .i64 ((Nat.log2 x + 1 : Nat) : Int)) ∧ w' = w := by
  go_enter Tryd.func43, Tryd.ntmps43
  go_wp2_with (go_at_call 48; refine (Len64_any x h1 h2 _).mono ?_; rintro e w' ⟨rfl, rfl⟩)
  go_ret
  exact ⟨rfl, rfl⟩

theorem leftSize_any (n : Nat) (h1 : 2 ≤ n) (h2 : n ≤ 512) (w : World) :
    Calls Tryd.prog 36 #[.int .i64 (n : Int)] w fun e w' => e = .returned (.int .i64 (halfN n : Int)) ∧ w' = w := by
  have hl := fun w' => Len_any (n - 1) (by omega) (by omega) w'
  unfold halfN
  have hk : Nat.log2 (n - 1) < 9 := (Nat.log2_lt (by omega)).2 (by omega)
  have e1 : ((n - 1 : Nat) : Int) = (n : Int) - 1 := by omega
  rw [e1] at hl
  generalize Nat.log2 (n - 1) = k at hl hk ⊢
  rcases (show k = 0 ∨ k = 1 ∨ k = 2 ∨ k = 3 ∨ k = 4 ∨ k = 5 ∨ k = 6 ∨ k = 7 ∨ k = 8 by omega) with rfl | rfl | rfl | rfl | rfl | rfl | rfl | rfl | rfl <;>
    (go_enter Tryd.func36, Tryd.ntmps36
     go_wp2_with (go_at_call 43; refine (hl _).mono ?_; rintro e w' ⟨rfl, rfl⟩)
     go_ret
     exact ⟨rfl, rfl⟩)
end Go.Proofs.YtmfnncfiaaeknaaDoor
