/- Plain facts on the bytes of numbers: what is put is read, and what is read was put. -/
import Derived.Test.YthccbbdabfpjcaaRead2
namespace Go.Proofs.Ythccbbdabfpjcaa
open Go.RowKit

theorem lowB_nat (d : Nat) : (lowB d).toNat = d % 128 + 128 := by
  rw [lowB, UInt8.toNat_ofNat']; omega

theorem go_made : ∀ (r : List UInt8) (i n m s : Nat), numGo r i n = (m, s) → s ≠ 0 → ∃ d, m = n + d * 128 ^ i ∧ i < s ∧ putN d = r.take (s - i) ∧ (0 < i → 0 < d) := by
  intro r
  induction r with
  | nil => intro i n m s h hs; simp [numGo] at h; omega
  | cons c r ih =>
    intro i n m s h hs
    have hc := UInt8.toNat_lt c
    rw [numGo] at h
    split at h
    · rename_i h1
      obtain ⟨d, hm, hi, hp, hd⟩ := ih _ _ _ _ h hs
      have hd0 := hd (by omega)
      refine ⟨c.toNat % 128 + 128 * d, ?_, by omega, ?_, fun _ => by omega⟩
      · rw [hm, Nat.pow_succ, Nat.add_mul]
        have : d * (128 ^ i * 128) = 128 * d * 128 ^ i := by rw [Nat.mul_comm (128 ^ i) 128, ← Nat.mul_assoc, Nat.mul_comm d 128]
        omega
      · have e1 : (c.toNat % 128 + 128 * d) / 128 = d := by omega
        have e2 : lowB (c.toNat % 128 + 128 * d) = c := by
          apply UInt8.toNat_inj.1
          rw [lowB_nat]
          omega
        have e3 : s - i = (s - (i + 1)) + 1 := by omega
        rw [putN_great (by omega), e1, e2, hp, e3, List.take_succ_cons]
    · split at h
      · injection h with _ h2; exact absurd h2.symm hs
      · rename_i h1 h2
        injection h with h3 h4
        have e : s - i = 1 := by omega
        refine ⟨c.toNat, ?_, by omega, ?_, fun hi => by omega⟩
        · rw [← h3, Nat.mod_eq_of_lt (by omega)]
        · rw [putN_small (by omega), e]
          simp

theorem numOf_made {l : List UInt8} (h : (numOf l).2 ≠ 0) : putN (numOf l).1 = l.take (numOf l).2 := by
  obtain ⟨d, h1, _, h3, _⟩ := go_made (l.take 6) 0 0 _ _ rfl h
  have h4 := (go_bounds (l.take 6) 0 0).1
  have h5 : (numGo (l.take 6) 0 0).2 ≤ 6 := by rw [List.length_take] at h4; omega
  show putN (numGo (l.take 6) 0 0).1 = l.take (numGo (l.take 6) 0 0).2
  rw [h1]
  simp only [Nat.pow_zero, Nat.mul_one, Nat.zero_add]
  rw [h3, Nat.sub_zero, List.take_take, Nat.min_eq_left h5]

theorem go_read (rest : List UInt8) : ∀ (d i n : Nat), n + d * 128 ^ i ≤ 1099511627775 → (0 < i → 0 < d) → numGo (putN d ++ rest) i n = (n + d * 128 ^ i, i + (putN d).length) := by
  intro d
  induction d using Nat.strongRecOn with
  | ind d ih =>
    intro i n hle hd
    by_cases h : d < 128
    · rw [putN_small h]
      have e : (UInt8.ofNat d).toNat = d := by rw [UInt8.toNat_ofNat']; omega
      simp only [List.cons_append, List.nil_append, List.length_singleton]
      rw [go_last (by omega) (by rw [e, Nat.mod_eq_of_lt h]; omega), e, Nat.mod_eq_of_lt h]
    · rw [putN_great h, List.cons_append, go_more (by rw [lowB_nat]; omega), lowB_nat]
      have e1 : (d % 128 + 128) % 128 = d % 128 := by omega
      have e2 : d * 128 ^ i = d % 128 * 128 ^ i + d / 128 * 128 ^ (i + 1) := by
        rw [Nat.pow_succ, Nat.mul_comm (128 ^ i) 128, ← Nat.mul_assoc, ← Nat.add_mul]
        congr 1
        omega
      rw [e1, ih (d / 128) (by omega) (i + 1) _ (by omega) (fun _ => by omega), List.length_cons, e2]
      congr 1 <;> omega

theorem numOf_read (n : Nat) (rest : List UInt8) (h : n ≤ 1099511627775) : numOf (putN n ++ rest) = (n, (putN n).length) := by
  have h6 := putN_len n h
  unfold numOf
  rw [List.take_append, List.take_of_length_le h6, go_read _ n 0 0 (by simpa using h) (by omega)]
  simp

theorem putN_ne (n : Nat) : 0 < (putN n).length := by
  by_cases h : n < 128
  · rw [putN_small h]; simp
  · rw [putN_great h]; simp

theorem putN_inj {a b : Nat} (ha : a ≤ 1099511627775) (hb : b ≤ 1099511627775) (h : putN a = putN b) : a = b := by
  have h1 := numOf_read a [] ha
  have h2 := numOf_read b [] hb
  rw [List.append_nil] at h1 h2
  rw [h, h2] at h1
  injection h1 with h1 _
  exact h1.symm

/-- A number that was put is read. -/
theorem rNum_read (n : Nat) (rest : List UInt8) (bad : Bool) (h : n ≤ 1099511627775) : rNum (putN n ++ rest, bad) = (n, (rest, bad)) := by
  have h0 := putN_ne n
  unfold rNum
  rw [if_neg (by rw [numOf_read n rest h]; simp; intro e; rw [e] at h0; simp at h0)]
  rw [numOf_read n rest h]
  simp
/-- A text that was put is read. -/
theorem rText_read (s rest : List UInt8) (bad : Bool) (h : s.length ≤ 1099511627775) : rText (textL s ++ rest, bad) = (s, (rest, bad)) := by
  have e : textL s ++ rest = putN s.length ++ (s ++ rest) := by rw [textL, putL_some h, List.append_assoc]
  unfold rText
  rw [e, rNum_read _ _ _ h]
  unfold rTake
  rw [if_neg (by simp)]
  simp
/-- A hash that was put is read. -/
theorem rHash_read (s rest : List UInt8) (bad : Bool) (h : s.length = 32) : rHash (s ++ rest, bad) = (s, (rest, bad)) := by
  unfold rHash
  rw [if_neg (by simp; omega)]
  have h1 : (s ++ rest).take 32 = s := by rw [List.take_append_of_le_length (by omega), List.take_of_length_le (by omega)]
  have h2 : (s ++ rest).drop 32 = rest := by rw [← h, List.drop_left]
  simp only [h1, h2]
theorem min_some (n k : Nat) : ∃ m : Nat, (if (k : Int) < (n : Int) then (k : Int) else (n : Int)) = (m : Int) ∧ m ≤ n ∧ m ≤ k := by
  by_cases h : (k : Int) < (n : Int)
  · exact ⟨k, by rw [if_pos h], by omega, Nat.le_refl _⟩
  · exact ⟨n, by rw [if_neg h], Nat.le_refl _, by omega⟩


/-- The zero hash as a value. -/
theorem zeroH : Value.agg ((List.replicate 32 (0 : UInt8)).map bv).toArray = Value.agg #[Value.int .u8 0, Value.int .u8 0, Value.int .u8 0, Value.int .u8 0, Value.int .u8 0, Value.int .u8 0, Value.int .u8 0, Value.int .u8 0, Value.int .u8 0, Value.int .u8 0, Value.int .u8 0, Value.int .u8 0, Value.int .u8 0, Value.int .u8 0, Value.int .u8 0, Value.int .u8 0, Value.int .u8 0, Value.int .u8 0, Value.int .u8 0, Value.int .u8 0, Value.int .u8 0, Value.int .u8 0, Value.int .u8 0, Value.int .u8 0, Value.int .u8 0, Value.int .u8 0, Value.int .u8 0, Value.int .u8 0, Value.int .u8 0, Value.int .u8 0, Value.int .u8 0, Value.int .u8 0] := rfl
theorem zeroH_eq (W : World) : (binOp .eql 33 (.agg #[Value.int .u8 0, Value.int .u8 0, Value.int .u8 0, Value.int .u8 0, Value.int .u8 0, Value.int .u8 0, Value.int .u8 0, Value.int .u8 0, Value.int .u8 0, Value.int .u8 0, Value.int .u8 0, Value.int .u8 0, Value.int .u8 0, Value.int .u8 0, Value.int .u8 0, Value.int .u8 0, Value.int .u8 0, Value.int .u8 0, Value.int .u8 0, Value.int .u8 0, Value.int .u8 0, Value.int .u8 0, Value.int .u8 0, Value.int .u8 0, Value.int .u8 0, Value.int .u8 0, Value.int .u8 0, Value.int .u8 0, Value.int .u8 0, Value.int .u8 0, Value.int .u8 0, Value.int .u8 0]) (.agg #[Value.int .u8 0, Value.int .u8 0, Value.int .u8 0, Value.int .u8 0, Value.int .u8 0, Value.int .u8 0, Value.int .u8 0, Value.int .u8 0, Value.int .u8 0, Value.int .u8 0, Value.int .u8 0, Value.int .u8 0, Value.int .u8 0, Value.int .u8 0, Value.int .u8 0, Value.int .u8 0, Value.int .u8 0, Value.int .u8 0, Value.int .u8 0, Value.int .u8 0, Value.int .u8 0, Value.int .u8 0, Value.int .u8 0, Value.int .u8 0, Value.int .u8 0, Value.int .u8 0, Value.int .u8 0, Value.int .u8 0, Value.int .u8 0, Value.int .u8 0, Value.int .u8 0, Value.int .u8 0])).run Try.prog W = .ok (.bool true) W := by kernel_rfl
theorem zeroH_one : (#[Value.int .u8 0, Value.int .u8 0, Value.int .u8 0, Value.int .u8 0, Value.int .u8 0, Value.int .u8 0, Value.int .u8 0, Value.int .u8 0, Value.int .u8 0, Value.int .u8 0, Value.int .u8 0, Value.int .u8 0, Value.int .u8 0, Value.int .u8 0, Value.int .u8 0, Value.int .u8 0, Value.int .u8 0, Value.int .u8 0, Value.int .u8 0, Value.int .u8 0, Value.int .u8 0, Value.int .u8 0, Value.int .u8 0, Value.int .u8 0, Value.int .u8 0, Value.int .u8 0, Value.int .u8 0, Value.int .u8 0, Value.int .u8 0, Value.int .u8 0, Value.int .u8 0, Value.int .u8 0] : Array Value).all (·.oneCell') = true := bv_all (List.replicate 32 0)
end Go.Proofs.Ythccbbdabfpjcaa
