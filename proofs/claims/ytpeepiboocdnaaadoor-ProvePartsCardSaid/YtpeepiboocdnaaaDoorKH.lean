/- Merkle trees as plain functions: roots, paths, depths, what a path leads up to. How many leaves the left part has: the program's leftSize (by math/bits), the document's half; what a root costs. Merkle trees: a leaf's root, the root of two parts, the root of a row of leaves; the program's and the document's own. Merkle trees: paths; the program's and the document's own. -/
import Derived.Test.YtpeepiboocdnaaaDoorKC
import Derived.Lib.BitFns
import Derived.Test.YtpeepiboocdnaaaDoorKG
namespace Go.Proofs.YtpeepiboocdnaaaDoor

theorem tagT_len (t : UInt8) (l : List UInt8) : (tagL t l).length = 32 := sumL_len _
/-- The greatest power of two below n (n at least 2). -/
def halfN (n : Nat) : Nat := 2 ^ Nat.log2 (n - 1)
theorem halfN_pos (n : Nat) : 1 ≤ halfN n := Nat.one_le_two_pow
theorem halfN_lt {n : Nat} (h : 2 ≤ n) : halfN n < n := by
  have := Nat.log2_self_le (n := n - 1) (by omega)
  unfold halfN; omega
theorem halfN_ge {n : Nat} (h : 2 ≤ n) : n ≤ 2 * halfN n := by
  have := Nat.lt_log2_self (n := n - 1)
  unfold halfN; rw [Nat.pow_succ] at this; omega
theorem halfN_eq {n m : Nat} (h1 : 2 ^ m < n) (h2 : n ≤ 2 * 2 ^ m) : halfN n = 2 ^ m := by
  have h0 := Nat.one_le_two_pow (n := m)
  have e : Nat.log2 (n - 1) = m := (Nat.log2_eq_iff (by omega)).2 ⟨by omega, by rw [Nat.pow_succ]; omega⟩
  unfold halfN
  rw [e]

def rootL (l : List (List UInt8)) : List UInt8 :=
  if _h : 2 ≤ l.length then tagL 1 (rootL (l.take (halfN l.length)) ++ rootL (l.drop (halfN l.length)))
  else if l = [] then tagL 2 [] else tagL 0 l.flatten
termination_by l.length
decreasing_by
  · have := halfN_lt _h; rw [List.length_take]; omega
  · have := halfN_pos l.length; rw [List.length_drop]; omega
theorem rootL_0 : rootL [] = tagL 2 [] := by rw [rootL]; simp
theorem rootL_1 (x : List UInt8) : rootL [x] = tagL 0 x := by rw [rootL]; simp
theorem rootL_2 {l : List (List UInt8)} (h : 2 ≤ l.length) : rootL l = tagL 1 (rootL (l.take (halfN l.length)) ++ rootL (l.drop (halfN l.length))) := by
  rw [rootL, dif_pos h]
theorem rootL_len (l : List (List UInt8)) : (rootL l).length = 32 := by
  rw [rootL]; split
  · exact tagT_len _ _
  · split <;> exact tagT_len _ _

def pathL (l : List (List UInt8)) (i : Nat) : List (List UInt8) :=
  if _h : 2 ≤ l.length ∧ i < l.length then
    if i < halfN l.length then pathL (l.take (halfN l.length)) i ++ [rootL (l.drop (halfN l.length))]
    else pathL (l.drop (halfN l.length)) (i - halfN l.length) ++ [rootL (l.take (halfN l.length))]
  else []
termination_by l.length
decreasing_by
  · have := halfN_lt _h.1; rw [List.length_take]; omega
  · have := halfN_pos l.length; rw [List.length_drop]; omega
theorem pathL_0 {l : List (List UInt8)} {i : Nat} (h : l.length ≤ 1 ∨ l.length ≤ i) : pathL l i = [] := by
  rw [pathL, dif_neg (by omega)]
theorem pathL_l {l : List (List UInt8)} {i : Nat} (h : 2 ≤ l.length) (hk : i < halfN l.length) : pathL l i = pathL (l.take (halfN l.length)) i ++ [rootL (l.drop (halfN l.length))] := by
  have := halfN_lt h
  rw [pathL, dif_pos (by omega), if_pos hk]
theorem pathL_r {l : List (List UInt8)} {i : Nat} (h : 2 ≤ l.length) (hi : i < l.length) (hk : ¬ i < halfN l.length) : pathL l i = pathL (l.drop (halfN l.length)) (i - halfN l.length) ++ [rootL (l.take (halfN l.length))] := by
  rw [pathL, dif_pos (by omega), if_neg hk]
theorem pathL_32 (l : List (List UInt8)) (i : Nat) : ∀ x ∈ pathL l i, x.length = 32 := by
  induction l, i using pathL.induct with
  | case1 l i h hk ih => rw [pathL_l h.1 hk]; intro x hx; rcases List.mem_append.1 hx with hx | hx
                         · exact ih x hx
                         · simp only [List.mem_singleton] at hx; subst hx; exact rootL_len _
  | case2 l i h hk ih => rw [pathL_r h.1 h.2 hk]; intro x hx; rcases List.mem_append.1 hx with hx | hx
                         · exact ih x hx
                         · simp only [List.mem_singleton] at hx; subst hx; exact rootL_len _
  | case3 l i h => rw [pathL_0 (by omega)]; simp

/-- How many hashes the path of leaf i of n has. -/
def depthN (i n : Nat) : Nat :=
  if h : 2 ≤ n then 1 + (if i < halfN n then depthN i (halfN n) else depthN (i - halfN n) (n - halfN n)) else 0
termination_by n
decreasing_by
  · exact halfN_lt h
  · have := halfN_pos n; omega
theorem depthN_1 {i n : Nat} (h : n ≤ 1) : depthN i n = 0 := by rw [depthN, dif_neg (by omega)]
theorem depthN_l {i n : Nat} (h : 2 ≤ n) (hk : i < halfN n) : depthN i n = 1 + depthN i (halfN n) := by rw [depthN, dif_pos h, if_pos hk]
theorem depthN_r {i n : Nat} (h : 2 ≤ n) (hk : ¬ i < halfN n) : depthN i n = 1 + depthN (i - halfN n) (n - halfN n) := by rw [depthN, dif_pos h, if_neg hk]
theorem depthN_pos {i n : Nat} (h : 2 ≤ n) : 1 ≤ depthN i n := by rw [depthN, dif_pos h]; omega
theorem pathL_len (l : List (List UInt8)) (i : Nat) (hi : i < l.length) : (pathL l i).length = depthN i l.length := by
  induction l, i using pathL.induct with
  | case1 l i h hk ih =>
    have h1 := halfN_lt h.1
    have e : (l.take (halfN l.length)).length = halfN l.length := by rw [List.length_take]; omega
    rw [pathL_l h.1 hk, depthN_l h.1 hk, List.length_append, ih (by omega), e, List.length_singleton]; omega
  | case2 l i h hk ih =>
    have h1 := halfN_lt h.1
    have e : (l.drop (halfN l.length)).length = l.length - halfN l.length := List.length_drop
    rw [pathL_r h.1 h.2 hk, depthN_r h.1 hk, List.length_append, ih (by omega), e, List.length_singleton]; omega
  | case3 l i h => rw [pathL_0 (by omega), depthN_1 (by omega)]; rfl
theorem depthN_lt (n : Nat) : ∀ i, depthN i n ≤ n := by
  induction n using Nat.strongRecOn with
  | ind n ih =>
    intro i
    by_cases h : 2 ≤ n
    · have h1 := halfN_lt h
      have h2 := halfN_pos n
      by_cases hk : i < halfN n
      · rw [depthN_l h hk]; have := ih _ h1 i; omega
      · rw [depthN_r h hk]; have := ih (n - halfN n) (by omega) (i - halfN n); omega
    · rw [depthN_1 (by omega)]; omega
/-- At most so many as it takes of doublings to reach n. -/
theorem depthN_le : ∀ m n i, n ≤ 2 ^ m → depthN i n ≤ m
  | m, n, i, hm => by
    induction m generalizing n i with
    | zero => rw [depthN_1 (by simpa using hm)]; exact Nat.le_refl _
    | succ m ih =>
      by_cases h : 2 ≤ n
      · have h1 := halfN_lt h
        have h2 := halfN_ge h
        have h3 : halfN n ≤ 2 ^ m := by
          unfold halfN
          refine Nat.pow_le_pow_right (by decide) ?_
          have : 2 ^ Nat.log2 (n - 1) < 2 ^ (m + 1) := Nat.lt_of_lt_of_le (show halfN n < n from h1) hm
          have := (Nat.pow_lt_pow_iff_right (by decide : 1 < 2)).1 this
          omega
        rw [Nat.pow_succ] at hm
        by_cases hk : i < halfN n
        · rw [depthN_l h hk]; have := ih (halfN n) i h3; omega
        · rw [depthN_r h hk]; have := ih (n - halfN n) (i - halfN n) (by omega); omega
      · rw [depthN_1 (by omega)]; omega
theorem depthN_zero : ∀ m n, 2 ^ m < 2 * n → n ≤ 2 ^ m → depthN 0 n = m
  | m, n, h1, h2 => by
    induction m generalizing n with
    | zero => exact depthN_1 (by simpa using h2)
    | succ m ih =>
      rw [Nat.pow_succ] at h1 h2
      have h0 := Nat.one_le_two_pow (n := m)
      have e : halfN n = 2 ^ m := halfN_eq (by omega) (by omega)
      rw [depthN_l (by omega) (by have := halfN_pos n; omega), e, ih (2 ^ m) (by omega) (Nat.le_refl _)]; omega

/-- The root that a leaf and a path lead up to; P: the path's hashes, one behind the other, d of them. -/
def upL (x : List UInt8) (i n : Nat) (P : List UInt8) (d : Nat) : List UInt8 :=
  match d with
  | 0 => tagL 0 x
  | d + 1 =>
    if i < halfN n then tagL 1 (upL x i (halfN n) P d ++ (P.drop (d * 32)).take 32)
    else tagL 1 ((P.drop (d * 32)).take 32 ++ upL x (i - halfN n) (n - halfN n) P d)
theorem upL_len (x : List UInt8) (i n : Nat) (P : List UInt8) (d : Nat) : (upL x i n P d).length = 32 := by
  cases d with
  | zero => exact tagT_len _ _
  | succ d => unfold upL; split <;> exact tagT_len _ _
theorem upL_take (x : List UInt8) (P : List UInt8) : ∀ d i n m, d * 32 ≤ m → upL x i n (P.take m) d = upL x i n P d
  | 0, _, _, _, _ => rfl
  | d + 1, i, n, m, h => by
    have e : ((P.take m).drop (d * 32)).take 32 = (P.drop (d * 32)).take 32 := by
      rw [List.drop_take, List.take_take, Nat.min_eq_left (by omega)]
    unfold upL
    rw [upL_take x P d i (halfN n) m (by omega), upL_take x P d (i - halfN n) (n - halfN n) m (by omega), e]
theorem upL_app (x : List UInt8) (P R : List UInt8) (d i n : Nat) (h : d * 32 ≤ P.length) : upL x i n (P ++ R) d = upL x i n P d := by
  have := upL_take x (P ++ R) d i n P.length h
  rw [List.take_left] at this
  exact this.symm
theorem flat_len (L : List (List UInt8)) (h : ∀ x ∈ L, x.length = 32) : L.flatten.length = L.length * 32 := by
  induction L with
  | nil => rfl
  | cons a L ih =>
    rw [List.flatten_cons, List.length_append, ih (fun x hx => h x (List.mem_cons_of_mem _ hx)), h a (List.mem_cons_self ..), List.length_cons]; omega
/-- P4.3: a leaf's path leads up to the root. -/
theorem upL_path (l : List (List UInt8)) (i : Nat) : ∀ (n : Nat) (x : List UInt8), l.length = n → l[i]? = some x → upL x i n (pathL l i).flatten (depthN i n) = rootL l := by
  induction l, i using pathL.induct with
  | case1 l i h hk ih =>
    intro n x hn hx
    subst hn
    have h1 := halfN_lt h.1
    have e : (l.take (halfN l.length)).length = halfN l.length := by rw [List.length_take]; omega
    have hf : (pathL (l.take (halfN l.length)) i).flatten.length = depthN i (halfN l.length) * 32 := by
      rw [flat_len _ (pathL_32 _ _), pathL_len _ _ (by omega), e]
    rw [depthN_l h.1 hk, pathL_l h.1 hk, Nat.add_comm, upL, if_pos hk, List.flatten_append, List.flatten_singleton, upL_app _ _ _ _ _ _ (by omega), ← hf, List.drop_left, List.take_of_length_le (Nat.le_of_eq (rootL_len _)), rootL_2 h.1, ih _ x e (by rw [List.getElem?_take_of_lt hk]; exact hx)]
  | case2 l i h hk ih =>
    intro n x hn hx
    subst hn
    have h1 := halfN_lt h.1
    have e : (l.drop (halfN l.length)).length = l.length - halfN l.length := List.length_drop
    have hf : (pathL (l.drop (halfN l.length)) (i - halfN l.length)).flatten.length = depthN (i - halfN l.length) (l.length - halfN l.length) * 32 := by
      rw [flat_len _ (pathL_32 _ _), pathL_len _ _ (by omega), e]
    rw [depthN_r h.1 hk, pathL_r h.1 h.2 hk, Nat.add_comm, upL, if_neg hk, List.flatten_append, List.flatten_singleton, upL_app _ _ _ _ _ _ (by omega), ← hf, List.drop_left, List.take_of_length_le (Nat.le_of_eq (rootL_len _)), rootL_2 h.1, ih _ x e (by rw [List.getElem?_drop, show halfN l.length + (i - halfN l.length) = i by omega]; exact hx)]
  | case3 l i h =>
    intro n x hn hx
    obtain ⟨hi, rfl⟩ := List.getElem?_eq_some_iff.1 hx
    subst hn
    rw [depthN_1 (by omega), upL]
    obtain ⟨a, rfl⟩ := List.length_eq_one_iff.1 (show l.length = 1 by omega)
    have : i = 0 := by simp at hi; exact hi
    subst this
    exact (rootL_1 a).symm
end Go.Proofs.YtpeepiboocdnaaaDoor

namespace Go.Proofs.YtpeepiboocdnaaaDoor
open Go.RowKit

theorem bitLen_log2 (x : Nat) (h1 : 1 ≤ x) (h2 : x < 512) : Lib.bitLen x = Nat.log2 x + 1 := by
  have h : ∀ y : Fin 512, 1 ≤ y.val → Lib.bitLen y.val = Nat.log2 y.val + 1 := by decide +kernel
  exact h ⟨x, h2⟩ h1

set_option maxHeartbeats 4000000 in
set_option maxRecDepth 100000 in
theorem Len64_lo (x : Int) (h0 : 0 ≤ x) (h1 : x ≤ 255) (w : World) :
    Calls Tryd.prog 51 #[.int .u64 x] w fun e w' => e = .returned (.int .i64 (Lib.bitLen x.toNat)) ∧ w' = w := by
  have el := Lib.hid (Lib.len8_of x h0 h1)
  have l := Lib.hid (Lib.bitLen_le8' x h0 h1)
  go_enter Tryd.func51, Tryd.ntmps51
  go_wp2
  go_ret
  refine ⟨congrArg Ending.returned (congrArg (Value.int IntKind.i64) ?_), rfl⟩
  have e1 := el.out
  have e2 := l.out
  have e3 : wrap64 (Lib.bitLen x.toNat : Int) = (Lib.bitLen x.toNat : Int) := IntWalk.wrap64_in _ ⟨by omega, by omega⟩
  rw [e1, e3, e3]
set_option maxHeartbeats 4000000 in
set_option maxRecDepth 100000 in
theorem Len64_hi (x : Int) (h0 : 256 ≤ x) (h1 : x ≤ 511) (w : World) :
    Calls Tryd.prog 51 #[.int .u64 x] w fun e w' => e = .returned (.int .i64 (Lib.bitLen x.toNat)) ∧ w' = w := by
  have h2 : 0 ≤ x / 256 := by omega
  have h3 : x / 256 ≤ 255 := by omega
  have el := Lib.hid (Lib.len8_of (x / 256) h2 h3)
  have l := Lib.hid (Lib.bitLen_le8' (x / 256) h2 h3)
  have sh := Lib.hid (Lib.bitLen_shift8 x.toNat (by omega) (by omega))
  go_enter Tryd.func51, Tryd.ntmps51
  go_wp2
  go_ret
  refine ⟨congrArg Ending.returned (congrArg (Value.int IntKind.i64) ?_), rfl⟩
  have e1 := el.out
  have e2 := l.out
  have e3 := sh.out
  have e : (x / 256).toNat = x.toNat / 256 := by omega
  rw [e] at e1 e2
  have e4 : wrap64 (Lib.bitLen (x.toNat / 256) : Int) = (Lib.bitLen (x.toNat / 256) : Int) := IntWalk.wrap64_in _ ⟨by omega, by omega⟩
  have e5 : wrap64 (8 + (Lib.bitLen (x.toNat / 256) : Int)) = 8 + (Lib.bitLen (x.toNat / 256) : Int) := IntWalk.wrap64_in _ ⟨by omega, by omega⟩
  rw [e3, e1, e4, e5]
  omega
theorem Len64_any (x : Nat) (h1 : 1 ≤ x) (h2 : x < 512) (w : World) :
    Calls Tryd.prog 51 #[.int .u64 (x : Int)] w fun e w' => e = .returned (.int .i64 ((Nat.log2 x + 1 : Nat) : Int)) ∧ w' = w := by
  have : Calls Tryd.prog 51 #[.int .u64 (x : Int)] w fun e w' => e = .returned (.int .i64 (Lib.bitLen (x : Int).toNat)) ∧ w' = w := by
    by_cases h : x ≤ 255
    · exact Len64_lo _ (by omega) (by omega) w
    · exact Len64_hi _ (by omega) (by omega) w
  rw [Int.toNat_natCast, bitLen_log2 x h1 h2] at this
  exact this

theorem Len_any (x : Nat) (h1 : 1 ≤ x) (h2 : x < 512) (w : World) :
    Calls Tryd.prog 41 #[.int .u64 (x : Int)] w fun e w' => e = .returned (.int .i64 ((Nat.log2 x + 1 : Nat) : Int)) ∧ w' = w := by
  go_enter Tryd.func41, Tryd.ntmps41
  go_wp2_with (go_at_call 51; refine (Len64_any x h1 h2 _).mono ?_; rintro e w' ⟨rfl, rfl⟩)
  go_ret
  exact ⟨rfl, rfl⟩

theorem leftSize_any (n : Nat) (h1 : 2 ≤ n) (h2 : n ≤ 512) (w : World) :
    Calls Tryd.prog 33 #[.int .i64 (n : Int)] w fun e w' => e = .returned (.int .i64 (halfN n : Int)) ∧ w' = w := by
  have hl := fun w' => Len_any (n - 1) (by omega) (by omega) w'
  unfold halfN
  have hk : Nat.log2 (n - 1) < 9 := (Nat.log2_lt (by omega)).2 (by omega)
  have e1 : ((n - 1 : Nat) : Int) = (n : Int) - 1 := by omega
  rw [e1] at hl
  generalize Nat.log2 (n - 1) = k at hl hk ⊢
  rcases (show k = 0 ∨ k = 1 ∨ k = 2 ∨ k = 3 ∨ k = 4 ∨ k = 5 ∨ k = 6 ∨ k = 7 ∨ k = 8 by omega) with rfl | rfl | rfl | rfl | rfl | rfl | rfl | rfl | rfl <;>
    (go_enter Tryd.func33, Tryd.ntmps33
     go_wp2_with (go_at_call 41; refine (hl _).mono ?_; rintro e w' ⟨rfl, rfl⟩)
     go_ret
     exact ⟨rfl, rfl⟩)
end Go.Proofs.YtpeepiboocdnaaaDoor

namespace Go.Proofs.YtpeepiboocdnaaaDoor
open Go.RowKit

theorem half_any (n : Nat) (h1 : 2 ≤ n) (h2 : n ≤ 100000000) (w : World) :
    Calls Tryd.prog 38 #[.int .i64 (n : Int)] w fun e w' => e = .returned (.int .i64 (halfN n : Int)) ∧ w' = w := by
  go_enter Tryd.func38, Tryd.ntmps38
  go_wp2
  go_loopw [3] (fun x wz => ∃ j k : Nat, k = 2 ^ j ∧ k < n ∧ x = .int .i64 (k : Int) ∧ wz = w) (fun x _ => n - (intOf x).toNat)
  case atStart => exact ⟨0, 1, rfl, by omega, rfl, rfl⟩
  case round =>
    obtain ⟨j, k, hj, hkn, rfl, rfl⟩ := hrel
    have hk0 : 1 ≤ k := by rw [hj]; exact Nat.one_le_two_pow
    by_cases hlt : 2 * k < n
    · have hlt' : 2 * (k : Int) < (n : Int) := by omega
      have HJ : Hid (2 * k = 2 ^ (j + 1)) := by show _ = _; rw [Nat.pow_succ, ← hj, Nat.mul_comm]
      clear hj
      go_wp2
      go_roundw
      case rel => exact ⟨j + 1, 2 * k, HJ.out, hlt, by go_num, trivial⟩
      case measure => simp [intOf]; omega
    · have hlt' : ¬ 2 * (k : Int) < (n : Int) := by omega
      have HE : Hid (halfN n = k) := by
        show _ = _
        rw [hj]; exact halfN_eq (by omega) (by omega)
      clear hj
      go_wp2
      go_ret
      exact ⟨by rw [HE.out]; rfl, rfl⟩

theorem sl_hiP (A : Option Addr) (n c k : Nat) (hk : k ≤ c) (w : World) : (Instr.sliceAt 46 (.slice A n c) none (some (.int .i64 (k : Int))) none).run Tryd.prog w = .ok (.slice A k c) w := by
  rw [run_sliceAt_slice (P := Tryd.prog) (w := w) (t := 46) (h := by kernel_rfl), run_slice_h (P := Tryd.prog) (w := w) (ht := by kernel_rfl) (h0 := by omega) (h2 := by omega)]
  have he : (sizeOf (Tryd.prog.elem 46)).run Tryd.prog w = .ok 1 w := by kernel_rfl
  rw [he, Result.andThen_ok]
  cases A with
  | none => simp [sliced]
  | some ad =>
    have e : ad.add 0 = ad := by unfold Addr.add; split <;> simp_all
    simp [sliced, e]
theorem sl_loP (A : Option Addr) (n c k : Nat) (hk : k ≤ n) (w : World) : (Instr.sliceAt 46 (.slice A n c) (some (.int .i64 (k : Int))) none none).run Tryd.prog w = .ok (.slice (if c = k then A else A.map (·.add k)) (n - k) (c - k)) w := by
  rw [run_sliceAt_slice (P := Tryd.prog) (w := w) (t := 46) (h := by kernel_rfl), run_slice_l (P := Tryd.prog) (w := w) (ht := by kernel_rfl) (h0 := by omega) (h1 := by omega)]
  have he : (sizeOf (Tryd.prog.elem 46)).run Tryd.prog w = .ok 1 w := by kernel_rfl
  rw [he, Result.andThen_ok]
  simp [sliced]
theorem RdP.take {w : World} {A : Option Addr} {ps : List Part} (h : RdP w A ps) (k : Nat) : RdP w A (ps.take k) :=
  ⟨by rw [List.map_take]; exact h.1.take k, fun p hp => h.2 p (List.mem_of_mem_take hp)⟩
theorem RdP.cut {w : World} {A : Option Addr} {ps : List Part} (h : RdP w A ps) {k c : Nat} (hc : ps.length ≤ c) : RdP w (if c = k then A else A.map (·.add k)) (ps.drop k) :=
  ⟨by rw [List.map_drop]; exact h.1.cut (by rw [List.length_map]; exact hc), fun p hp => h.2 p (List.mem_of_mem_drop hp)⟩
/-- Leaves' bytes. -/
def leavesOf (ps : List Part) : List (List UInt8) := ps.map fun p => p.2.1
theorem leavesOf_len (ps : List Part) : (leavesOf ps).length = ps.length := List.length_map ..
theorem leavesOf_take (ps : List Part) (k : Nat) : leavesOf (ps.take k) = (leavesOf ps).take k := List.map_take ..
theorem leavesOf_drop (ps : List Part) (k : Nat) : leavesOf (ps.drop k) = (leavesOf ps).drop k := List.map_drop ..

def Part2 (p q : Part) (v : Value) (w : World) : Prop := ∃ b, v = .slice (some ⟨b, 0, none⟩) 2 2 ∧ RdAt w (some ⟨b, 0, none⟩) [pv p, pv q]
theorem LastsB.part2 {al : Nat → Bool} {k : Nat} (ha : al k = false) (p q : Part) : LastsB al k (Part2 p q) := by
  rintro v w w' row ⟨b, rfl, h⟩ hg hne
  exact ⟨b, rfl, h.keep hg (fun ad e => by cases e; exact hne b (by simp [bl, ha, blocksOf]))⟩
/-- Two hashes in blocks of their own, as parts. -/
def hp (g : Nat) (X : List UInt8) : Part := (some ⟨g, 0, none⟩, X, 32)
theorem pv_hp {g : Nat} {X : List UInt8} (h : X.length = 32) : Value.slice (some ⟨g, 0, none⟩) 32 32 = pv (hp g X) := by simp [pv, hp, h]
theorem rd_hp2 {w : World} {A : Option Addr} {g h : Nat} {X Y : List UInt8} {t u : TypeId} (h0 : RdAt w A [pv (hp g X), pv (hp h Y)]) (h1 : w.heap[g]? = some (.cells (X.map bv).toArray t (0, 0))) (h2 : w.heap[h]? = some (.cells (Y.map bv).toArray u (0, 0))) : RdP w A [hp g X, hp h Y] :=
  ⟨h0, fun q hq => by
    simp only [List.mem_cons, List.not_mem_nil, or_false] at hq
    rcases hq with rfl | rfl
    · exact rd_row h1
    · exact rd_row h2⟩
theorem cat_hp2 (g h : Nat) (X Y : List UInt8) : catP [hp g X, hp h Y] = X ++ Y := by simp [catP, hp]


set_option maxRecDepth 100000 in
theorem leafRoot_any (A : Option Addr) (m : List UInt8) (c : Nat) (w : World) (hk : Laid2 w) (hr : RdB w A m) (hb : m.length ≤ 1000) :
    Calls Tryd.prog 43 #[.slice A m.length c] w fun e w' => e = .returned (.agg ((tagL 0 m).map bv).toArray) ∧ w.grownBy w' none := by
  have htag := fun A' w' (h1 : Laid2 w') (h3 : RdP w' A' [(A, m, c)]) => Tagged_any 0 A' [(A, m, c)] 1 w' h1.1 h1.2 h3 (by simp [catP]; omega) (by simp)
  obtain ⟨X, hX⟩ : ∃ X, X = tagL 0 (catP [(A, m, c)]) := ⟨_, rfl⟩
  rw [← hX] at htag
  have HX : Hid (X = tagL 0 m) := by show _ = _; rw [hX]; simp [catP]
  have hXl : Hid (X.length = 32) := by rw [hX]; exact tagL_len _ _
  clear hX
  change ∀ A' w', Laid2 w' → RdP w' A' _ → Calls Tryd.prog 42 #[.int .u8 0, .slice A' 1 1] w' _ at htag
  go_enter Tryd.func43, Tryd.ntmps43
  go_wp2_with (first
    | (go_at_call 42; refine (htag _ _ (hk.kept (by first | exact grown_refl _ _ | exact grown_alloc (grown_refl _ _) _ | exact grown_alloc (grown_alloc (grown_refl _ _) _) _ | exact grown_alloc (grown_alloc (grown_alloc (grown_refl _ _) _) _) _)) (rdP_kept1 (rd_row (cs := [_]) (alloc_at (by simp))) ((hr.alloc _).alloc _))).mono ?_; rintro e w6 ⟨rfl, hg6⟩)
    | (refine wpList_store_row rfl 44 _ _ rfl (w.heap.size) (X.map bv).toArray rfl rfl 44 _ (keep_of (alloc_old (alloc_at rfl)) hg6) (hashV_size X hXl.out) (by rw [show (X.map bv).toArray.size = 32 from by rw [List.size_toArray, List.length_map, hXl.out]]; rfl) (bv_all' _) ?_))
  refine bodyPost_ret (results_cell_row rfl _ _ (w.heap.size) 44 (X.map bv).toArray (0, 0) _ rfl (setRow_heap _ _ _ _ _ _ (keep_of (alloc_old (alloc_at rfl)) hg6)) Tryd.underlying44 rfl (hashV_size X hXl.out)) rfl ?_
  exact ⟨by rw [HX.out], grown_setRow (grown_same (grown_alloc (grown_alloc (grown_refl _ _) _) _) hg6) (.inr (by omega)) _⟩
def jaS (t : Nat) : Bool := t == 5 || t == 6 || t == 7 || t == 8
def jaDie (_ : Nat) : Nat := 99
def jaOwn (_ : Nat) : Bool := false
def jaAl (k : Nat) : Bool := k == 0 || k == 1
def jaF (g2 g3 : Nat) (X Y Z : List UInt8) : Nat → Value → World → Prop
  | 0 => fun v _ => v = .slice (some ⟨g2, 0, none⟩) 32 32
  | 1 => fun v _ => v = .slice (some ⟨g3, 0, none⟩) 32 32
  | 2 => Part2 (hp g2 X) (hp g3 Y)
  | 3 => fun v _ => v = (.agg (Z.map bv).toArray)
  | _ => fun _ _ => True
theorem jaF_lasts (g2 g3 : Nat) (X Y Z : List UInt8) : ∀ kq, LastsB jaAl kq (jaF g2 g3 X Y Z kq)
  | 0 => LastsB.val _
  | 1 => LastsB.val _
  | 2 => LastsB.part2 rfl _ _
  | 3 => LastsB.val _
  | _ + 4 => fun _ _ _ _ _ _ _ => trivial

set_option maxRecDepth 100000 in
theorem join_any (X Y : List UInt8) (hX : X.length = 32) (hY : Y.length = 32) (w0 : World) (hk : Laid2 w0) :
    Calls Tryd.prog 44 #[.agg (X.map bv).toArray, .agg (Y.map bv).toArray] w0 fun e w' => e = .returned (.agg ((tagL 1 (X ++ Y)).map bv).toArray) ∧ w0.grownBy w' none := by
  have hXl := Lib.hid hX
  have hYl := Lib.hid hY
  obtain ⟨Z, hz⟩ : ∃ Z, Z = tagL 1 (X ++ Y) := ⟨_, rfl⟩
  have hZl : Hid (Z.length = 32) := by rw [hz]; exact tagL_len _ _
  rw [← hz]
  have hZ := Lib.hid hz
  clear hX hY hz
  go_enter Tryd.func44, Tryd.ntmps44
  go_upto_region 1 with (fail)
  generalize hW : World.alloc (World.alloc (World.alloc w0 _) _) _ = W
  have hb2 : W.heap[w0.heap.size]? = some (.cells (X.map bv).toArray 44 (0, 0)) := by rw [← hW]; exact alloc_old (alloc_old (alloc_at rfl))
  have hb3 : W.heap[w0.heap.size + 1]? = some (.cells (Y.map bv).toArray 44 (0, 0)) := by rw [← hW]; exact alloc_old (alloc_at (by simp))
  have hb4 : W.heap[w0.heap.size + 2]? = some (.cells (rowH []) 44 (0, 0)) := by rw [← hW]; exact alloc_at (by simp)
  have hgW : w0.grownBy W none := by rw [← hW]; exact grown_alloc (grown_alloc (grown_alloc (grown_refl _ _) _) _) _
  clear hW
  replace hk := hk.kept hgW
  refine wp_region_gb (al := jaAl) 4 (N := 9) (S := jaS) (die := jaDie) (own := jaOwn) (F := jaF (w0.heap.size) (w0.heap.size + 1) X Y Z) (by kernel_rfl) (Nat.le_of_ble_eq_true (by kernel_rfl)) (fun _ => by kernel_rfl) (fun _ => by kernel_rfl) (by kernel_rfl) (by kernel_rfl) (Nat.le_of_ble_eq_true (by kernel_rfl)) (jaF_lasts (w0.heap.size) (w0.heap.size + 1) X Y Z) ?_ ?_
  · intro i o L' a w K hi ho hg hLi hout hpre houter hitem h1 h2 h3
    have hcases : i = 0 ∨ i = 1 ∨ i = 2 ∨ i = 3 := by omega
    rcases hcases with rfl | rfl | rfl | rfl
    · cases (show some _ = some o from ho)
      exact ⟨rfl, wp_slice_all rfl (houter 2 rfl) (sl_arr _ _ _) (h1 ⟨_, rfl⟩ _ _ (grown_refl _ none) rfl (nobl rfl) (FreshB.none rfl))⟩
    · cases (show some _ = some o from ho)
      exact ⟨rfl, wp_slice_all rfl (houter 3 rfl) (sl_arr _ _ _) (h1 ⟨_, rfl⟩ _ _ (grown_refl _ none) rfl (nobl rfl) (FreshB.none rfl))⟩
    · cases (show some _ = some o from ho)
      exact ⟨rfl, wp_lit2 rfl ((show a.eval (.tmp 5) = .slice (some ⟨(w0.heap.size), 0, none⟩) 32 32 from hitem 0 (by decide) ⟨hpre 0 rfl, hout _ (by decide)⟩).trans (pv_hp hXl.out)) ((show a.eval (.tmp 6) = .slice (some ⟨(w0.heap.size + 1), 0, none⟩) 32 32 from hitem 1 (by decide) ⟨hpre 1 rfl, hout _ (by decide)⟩).trans (pv_hp hYl.out)) (lit_p2 _ _ _) (h1 ⟨_, rfl⟩ _ _ (grown_alloc (grown_refl _ _) _) ⟨_, rfl, rd_row (cs := [_, _]) (heap_alloc_new _ _)⟩ (new_lt _ _) (FreshB.new (new_ge _)))⟩
    · cases (show some _ = some o from ho)
      obtain ⟨b, e1, h4⟩ := hitem 2 (by decide) ⟨hpre 2 rfl, hout _ (by decide)⟩
      exact ⟨rfl, wp_tag (t := 1) (ps := [hp (w0.heap.size) X, hp (w0.heap.size + 1) Y]) (l := X ++ Y) rfl rfl e1 (rd_hp2 h4 (keep_of hb2 hg) (keep_of hb3 hg)) rfl (cat_hp2 _ _ _ _) (hk.kept hg).1 (hk.kept hg).2 (by rw [List.length_append, hXl.out, hYl.out]; omega) (by simp) (fun w' hg' => by rw [← hZ.out]; exact h1 ⟨_, rfl⟩ _ _ hg' rfl (nobl (blocks_bytes _)) (FreshB.none (blocks_bytes _)))⟩
  · intro a wT hgT hend hap ha
    obtain ⟨f, hf⟩ : ∃ f : Nat → Value, f = fun t => a.tmps.getD t undef := ⟨_, rfl⟩
    have s8 : f 8 = (.agg (Z.map bv).toArray) := by rw [hf]; exact (hend 3 (by decide) (by decide)).1
    rw [← hf] at ha
    clear hend hap
    clear hf
    subst ha
    simp only [fill, jaS, Nat.reduceAdd, Nat.reduceBEq, Bool.or_false, Bool.or_true, cond_true, cond_false, List.drop_succ_cons, List.drop_zero, s8]
    clear s8
    replace hb4 := keep_of hb4 hgT
    go_wp2_with (refine wpList_store_row rfl 44 _ _ rfl (w0.heap.size + 2) (Z.map bv).toArray rfl rfl 44 _ (hb4) (hashV_size Z hZl.out) (by rw [show (Z.map bv).toArray.size = 32 from by rw [List.size_toArray, List.length_map, hZl.out]]; rfl) (bv_all' _) ?_)
    refine bodyPost_ret (results_cell_row rfl _ _ (w0.heap.size + 2) 44 (Z.map bv).toArray (0, 0) _ rfl (setRow_heap _ _ _ _ _ _ (hb4)) Tryd.underlying44 rfl (hashV_size Z hZl.out)) rfl ?_
    exact ⟨rfl, grown_setRow (grown_same hgW hgT) (.inr (by omega)) _⟩
def taS (t : Nat) : Bool := t == 18 || t == 19 || t == 20 || t == 21 || t == 22 || t == 23 || t == 24 || t == 25 || t == 26
def taDie (_ : Nat) : Nat := 99
def taOwn (_ : Nat) : Bool := false
def taAl (k : Nat) : Bool := k == 0 || k == 2 || k == 4 || k == 6
def taF (A A2 : Option Addr) (n k m c c2 : Nat) (X Y Z : List UInt8) : Nat → Value → World → Prop
  | 0 => fun v _ => v = .slice A n c
  | 1 => fun v _ => v = .int .i64 (k : Int)
  | 2 => fun v _ => v = .slice A k c
  | 3 => fun v _ => v = (.agg (X.map bv).toArray)
  | 4 => fun v _ => v = .slice A n c
  | 5 => fun v _ => v = .int .i64 (k : Int)
  | 6 => fun v _ => v = .slice A2 m c2
  | 7 => fun v _ => v = (.agg (Y.map bv).toArray)
  | 8 => fun v _ => v = (.agg (Z.map bv).toArray)
  | _ => fun _ _ => True
theorem taF_lasts (A A2 : Option Addr) (n k m c c2 : Nat) (X Y Z : List UInt8) : ∀ kq, LastsB taAl kq (taF A A2 n k m c c2 X Y Z kq)
  | 0 => LastsB.val _
  | 1 => LastsB.val _
  | 2 => LastsB.val _
  | 3 => LastsB.val _
  | 4 => LastsB.val _
  | 5 => LastsB.val _
  | 6 => LastsB.val _
  | 7 => LastsB.val _
  | 8 => LastsB.val _
  | _ + 9 => fun _ _ _ _ _ _ _ => trivial

set_option maxRecDepth 100000 in
set_option maxHeartbeats 2000000 in
theorem Root_any : ∀ (n : Nat) (A : Option Addr) (ps : List Part) (c : Nat) (w : World), ps.length = n → n ≤ c → n ≤ 500 → (∀ p ∈ ps, p.2.1.length ≤ 1000) → Laid2 w → RdP w A ps →
    Calls Tryd.prog 34 #[.slice A n c] w fun e w' => e = .returned (.agg ((rootL (leavesOf ps)).map bv).toArray) ∧ w.grownBy w' none := by
  intro n
  induction n using Nat.strongRecOn with
  | ind n ih =>
  intro A ps c w hn hc h5 hl hk hr
  by_cases h0 : n = 0
  · subst h0
    obtain rfl := List.length_eq_zero_iff.1 hn
    have htag := fun w' (h1 : Laid2 w') => Tagged_any 2 none [] 0 w' h1.1 h1.2 ⟨RdAt.nil, by simp⟩ (by simp [catP]) (by simp)
    obtain ⟨X, hX⟩ : ∃ X, X = tagL 2 (catP []) := ⟨_, rfl⟩
    rw [← hX] at htag
    have HX : Hid (X = rootL (leavesOf [])) := by show _ = _; rw [hX]; exact rootL_0.symm
    have hXl : Hid (X.length = 32) := by rw [hX]; exact tagL_len _ _
    rw [← HX.out]
    clear hX ih
    change ∀ w', Laid2 w' → Calls Tryd.prog 42 #[.int .u8 2, .slice none 0 0] w' _ at htag
    go_enter Tryd.func34, Tryd.ntmps34
    go_wp2_with (first
      | (go_at_call 42; refine (htag _ (hk.kept (by first | exact grown_refl _ _ | exact grown_alloc (grown_refl _ _) _ | exact grown_alloc (grown_alloc (grown_refl _ _) _) _ | exact grown_alloc (grown_alloc (grown_alloc (grown_refl _ _) _) _) _)) ).mono ?_; rintro e w6 ⟨rfl, hg6⟩)
      | (refine wpList_store_row rfl 44 _ _ rfl (w.heap.size) (X.map bv).toArray rfl rfl 44 _ (keep_of (alloc_at rfl) hg6) (hashV_size X hXl.out) (by rw [show (X.map bv).toArray.size = 32 from by rw [List.size_toArray, List.length_map, hXl.out]]; rfl) (bv_all' _) ?_))
    refine bodyPost_ret (results_cell_row rfl _ _ (w.heap.size) 44 (X.map bv).toArray (0, 0) _ rfl (setRow_heap _ _ _ _ _ _ (keep_of (alloc_at rfl) hg6)) Tryd.underlying44 rfl (hashV_size X hXl.out)) rfl ?_
    exact ⟨rfl, grown_setRow (grown_same (grown_alloc (grown_refl _ _) _) hg6) (.inr (by omega)) _⟩
  by_cases h1 : n = 1
  · subst h1
    obtain ⟨p, rfl⟩ := List.length_eq_one_iff.1 hn
    obtain ⟨ad, rfl, hc0, hr0⟩ := hr.get (k := 0) (by simp)
    have hl0 := hl p (by simp)
    obtain ⟨pA, pl, pc⟩ := p
    simp only [List.getElem_cons_zero] at hc0 hr0 hl0
    rw [show ad.add 0 = ad from by unfold Addr.add; split <;> simp_all] at hc0
    have hle := fun w' (h : w.grownBy w' none) => leafRoot_any pA pl pc w' (hk.kept h) (hr0.kept h) hl0
    obtain ⟨X, hX⟩ : ∃ X, X = tagL 0 pl := ⟨_, rfl⟩
    rw [← hX] at hle
    have HX : Hid (X = rootL (leavesOf [(pA, pl, pc)])) := by show _ = _; rw [hX, show leavesOf [(pA, pl, pc)] = [pl] from rfl, rootL_1]
    have hXl : Hid (X.length = 32) := by rw [hX]; exact tagL_len _ _
    rw [← HX.out]
    obtain ⟨m, hm⟩ : ∃ m, m = pl.length := ⟨_, rfl⟩
    rw [← hm] at hc0 hle
    have hc1 : ∀ o, (w.alloc o).cell? ad = some (.slice pA m pc) := fun o => (grown_alloc (grown_refl w none) o).cell hc0 (by simp)
    clear hX hm ih
    go_enter Tryd.func34, Tryd.ntmps34
    go_wp2_with (first
      | (go_at_call 43; refine (hle _ (grown_alloc (grown_refl _ _) _)).mono ?_; rintro e w6 ⟨rfl, hg6⟩)
      | (refine wpList_store_row rfl 44 _ _ rfl (w.heap.size) (X.map bv).toArray rfl rfl 44 _ (keep_of (alloc_at rfl) hg6) (hashV_size X hXl.out) (by rw [show (X.map bv).toArray.size = 32 from by rw [List.size_toArray, List.length_map, hXl.out]]; rfl) (bv_all' _) ?_))
    refine bodyPost_ret (results_cell_row rfl _ _ (w.heap.size) 44 (X.map bv).toArray (0, 0) _ rfl (setRow_heap _ _ _ _ _ _ (keep_of (alloc_at rfl) hg6)) Tryd.underlying44 rfl (hashV_size X hXl.out)) rfl ?_
    exact ⟨rfl, grown_setRow (grown_same (grown_alloc (grown_refl _ _) _) hg6) (.inr (by omega)) _⟩
  · have h2 : 2 ≤ n := by omega
    have hls := fun w' => leftSize_any n (by omega) (by omega) w'
    have hk1 := halfN_pos n
    have hk2 := halfN_lt h2
    have hro1 := fun w' (hg : w.grownBy w' none) => ih (halfN n) hk2 A (ps.take (halfN n)) c w' (by rw [List.length_take]; omega) (by omega) (by omega) (fun p hp => hl p (List.mem_of_mem_take hp)) (hk.kept hg) ((hr.take _).kept hg)
    have hro2 := fun w' (hg : w.grownBy w' none) => ih (n - halfN n) (by omega) (if c = halfN n then A else A.map (·.add (halfN n))) (ps.drop (halfN n)) (c - halfN n) w' (by rw [List.length_drop]; omega) (by omega) (by omega) (fun p hp => hl p (List.mem_of_mem_drop hp)) (hk.kept hg) ((hr.cut (by omega)).kept hg)
    have hlo := fun w' => sl_loP A n c (halfN n) (by omega) w'
    obtain ⟨X, hX⟩ : ∃ X, X = rootL (leavesOf (ps.take (halfN n))) := ⟨_, rfl⟩
    obtain ⟨Y, hY⟩ : ∃ Y, Y = rootL (leavesOf (ps.drop (halfN n))) := ⟨_, rfl⟩
    have hXl : Hid (X.length = 32) := by rw [hX]; exact rootL_len _
    have hYl : Hid (Y.length = 32) := by rw [hY]; exact rootL_len _
    obtain ⟨Z, hz⟩ : ∃ Z, Z = tagL 1 (X ++ Y) := ⟨_, rfl⟩
    have hZl : Hid (Z.length = 32) := by rw [hz]; exact tagL_len _ _
    have HZ : Hid (rootL (leavesOf ps) = Z) := by
      show _ = _
      rw [rootL_2 (by rw [leavesOf_len]; omega), leavesOf_len, hn, hz, hX, hY, leavesOf_take, leavesOf_drop]
    rw [HZ.out]
    rw [← hX] at hro1
    rw [← hY] at hro2
    clear hX hY HZ ih hr hl
    have hjo := fun w' (h : Laid2 w') => join_any X Y hXl.out hYl.out w' h
    rw [← hz] at hjo
    clear hz
    obtain ⟨A2, hA2⟩ : ∃ A2, A2 = (if c = halfN n then A else A.map (·.add (halfN n))) := ⟨_, rfl⟩
    obtain ⟨m, hm⟩ : ∃ m, m = n - halfN n := ⟨_, rfl⟩
    obtain ⟨c2, hc2⟩ : ∃ c2, c2 = c - halfN n := ⟨_, rfl⟩
    rw [← hA2, ← hm, ← hc2] at hro2 hlo
    clear hA2 hm hc2
    generalize halfN n = k at hls hk1 hk2 hro1 hlo
    have hkc : k ≤ c := by omega
    have e0 : ¬ (n : Int) = 0 := by omega
    have e1 : ¬ (n : Int) = 1 := by omega
    go_enter Tryd.func34, Tryd.ntmps34
    go_upto_region 7 with (go_at_call 33; refine (hls _).mono ?_; rintro e w5 ⟨rfl, rfl⟩)
    generalize hW : World.alloc w _ = W
    have hb2 : W.heap[w.heap.size]? = some (.cells (rowH []) 44 (0, 0)) := by rw [← hW]; exact alloc_at rfl
    have hgW : w.grownBy W none := by rw [← hW]; exact grown_alloc (grown_refl _ _) _
    clear hW
    replace hro1 := fun w' (h : W.grownBy w' none) => hro1 w' (grown_same hgW h)
    replace hro2 := fun w' (h : W.grownBy w' none) => hro2 w' (grown_same hgW h)
    replace hk := hk.kept hgW
    refine wp_region_gb (al := taAl) 9 (N := 27) (S := taS) (die := taDie) (own := taOwn) (F := taF A A2 n k m c c2 X Y Z) (by kernel_rfl) (Nat.le_of_ble_eq_true (by kernel_rfl)) (fun _ => by kernel_rfl) (fun _ => by kernel_rfl) (by kernel_rfl) (by kernel_rfl) (Nat.le_of_ble_eq_true (by kernel_rfl)) (taF_lasts A A2 n k m c c2 X Y Z) ?_ ?_
    · intro i o L' a w K hi ho hg hLi hout hpre houter hitem h1 h2 h3
      have hcases : i = 0 ∨ i = 1 ∨ i = 2 ∨ i = 3 ∨ i = 4 ∨ i = 5 ∨ i = 6 ∨ i = 7 ∨ i = 8 := by omega
      rcases hcases with rfl | rfl | rfl | rfl | rfl | rfl | rfl | rfl | rfl
      · cases (show some _ = some o from ho)
        exact ⟨rfl, wp_move rfl (h1 ⟨_, rfl⟩ _ _ (grown_refl _ none) (houter _ rfl) (by rw [houter _ rfl]; exact nobl rfl) (by rw [houter _ rfl]; exact FreshB.none rfl))⟩
      · cases (show some _ = some o from ho)
        exact ⟨rfl, wp_move rfl (h1 ⟨_, rfl⟩ _ _ (grown_refl _ none) (houter _ rfl) (by rw [houter _ rfl]; exact nobl rfl) (by rw [houter _ rfl]; exact FreshB.none rfl))⟩
      · cases (show some _ = some o from ho)
        exact ⟨rfl, wp_slice_hi rfl (hitem 0 (by decide) ⟨hpre 0 rfl, hout _ (by decide)⟩) (hitem 1 (by decide) ⟨hpre 1 rfl, hout _ (by decide)⟩) (sl_hiP A n c k hkc _) (h1 ⟨_, rfl⟩ _ _ (grown_refl _ none) rfl (nobl rfl) (FreshB.none rfl))⟩
      · cases (show some _ = some o from ho)
        have x20 : a.eval (.tmp 20) = .slice A k c := hitem 2 (by decide) ⟨hpre 2 rfl, hout _ (by decide)⟩
        refine ⟨rfl, wp_call rfl Tryd.func34 (by kernel_rfl) (by kernel_rfl) (args := #[.slice A k c]) (by simp [x20]) ((hro1 w hg).mono ?_)⟩
        rintro e w' ⟨rfl, hg'⟩
        exact ⟨_, rfl, h1 ⟨_, rfl⟩ _ _ hg' rfl (nobl (blocks_bytes _)) (FreshB.none (blocks_bytes _))⟩
      · cases (show some _ = some o from ho)
        exact ⟨rfl, wp_move rfl (h1 ⟨_, rfl⟩ _ _ (grown_refl _ none) (houter _ rfl) (by rw [houter _ rfl]; exact nobl rfl) (by rw [houter _ rfl]; exact FreshB.none rfl))⟩
      · cases (show some _ = some o from ho)
        exact ⟨rfl, wp_move rfl (h1 ⟨_, rfl⟩ _ _ (grown_refl _ none) (houter _ rfl) (by rw [houter _ rfl]; exact nobl rfl) (by rw [houter _ rfl]; exact FreshB.none rfl))⟩
      · cases (show some _ = some o from ho)
        exact ⟨rfl, wp_slice_lo rfl (hitem 4 (by decide) ⟨hpre 4 rfl, hout _ (by decide)⟩) (hitem 5 (by decide) ⟨hpre 5 rfl, hout _ (by decide)⟩) (hlo _) (h1 ⟨_, rfl⟩ _ _ (grown_refl _ none) rfl (nobl rfl) (FreshB.none rfl))⟩
      · cases (show some _ = some o from ho)
        have x24 : a.eval (.tmp 24) = .slice A2 m c2 := hitem 6 (by decide) ⟨hpre 6 rfl, hout _ (by decide)⟩
        refine ⟨rfl, wp_call rfl Tryd.func34 (by kernel_rfl) (by kernel_rfl) (args := #[.slice A2 m c2]) (by simp [x24]) ((hro2 w hg).mono ?_)⟩
        rintro e w' ⟨rfl, hg'⟩
        exact ⟨_, rfl, h1 ⟨_, rfl⟩ _ _ hg' rfl (nobl (blocks_bytes _)) (FreshB.none (blocks_bytes _))⟩
      · cases (show some _ = some o from ho)
        have x21 : a.eval (.tmp 21) = (.agg (X.map bv).toArray) := hitem 3 (by decide) ⟨hpre 3 rfl, hout _ (by decide)⟩
        have x25 : a.eval (.tmp 25) = (.agg (Y.map bv).toArray) := hitem 7 (by decide) ⟨hpre 7 rfl, hout _ (by decide)⟩
        refine ⟨rfl, wp_call rfl Tryd.func44 (by kernel_rfl) (by kernel_rfl) (args := #[(.agg (X.map bv).toArray), (.agg (Y.map bv).toArray)]) (by simp [x21, x25]) ((hjo w (hk.kept hg)).mono ?_)⟩
        rintro e w' ⟨rfl, hg'⟩
        exact ⟨_, rfl, h1 ⟨_, rfl⟩ _ _ hg' rfl (nobl (blocks_bytes _)) (FreshB.none (blocks_bytes _))⟩
    · intro a wT hgT hend hap ha
      obtain ⟨f, hf⟩ : ∃ f : Nat → Value, f = fun t => a.tmps.getD t undef := ⟨_, rfl⟩
      have s26 : f 26 = (.agg (Z.map bv).toArray) := by rw [hf]; exact (hend 8 (by decide) (by decide)).1
      rw [← hf] at ha
      clear hend hap
      clear hf
      subst ha
      simp only [fill, taS, Nat.reduceAdd, Nat.reduceBEq, Bool.or_false, Bool.or_true, cond_true, cond_false, List.drop_succ_cons, List.drop_zero, s26]
      clear s26
      replace hb2 := keep_of hb2 hgT
      go_wp2_with (refine wpList_store_row rfl 44 _ _ rfl (w.heap.size) (Z.map bv).toArray rfl rfl 44 _ (hb2) (hashV_size Z hZl.out) (by rw [show (Z.map bv).toArray.size = 32 from by rw [List.size_toArray, List.length_map, hZl.out]]; rfl) (bv_all' _) ?_)
      refine bodyPost_ret (results_cell_row rfl _ _ (w.heap.size) 44 (Z.map bv).toArray (0, 0) _ rfl (setRow_heap _ _ _ _ _ _ (hb2)) Tryd.underlying44 rfl (hashV_size Z hZl.out)) rfl ?_
      exact ⟨rfl, grown_setRow (grown_same hgW hgT) (.inr (by omega)) _⟩
def tbS (t : Nat) : Bool := t == 4 || t == 5 || t == 21 || t == 22 || t == 23 || t == 24 || t == 25 || t == 26 || t == 27 || t == 28
def tbDie (k : Nat) : Nat := if k = 8 then 10 else 99
def tbOwn (k : Nat) : Bool := k == 8 || k == 9 || k == 10
def tbAl (k : Nat) : Bool := k == 0 || k == 2 || k == 4 || k == 6 || k == 8 || k == 9 || k == 10
def tbF (A A2 : Option Addr) (n k m c c2 : Nat) (X Y : List UInt8) : Nat → Value → World → Prop
  | 0 => fun v _ => v = .slice A n c
  | 1 => fun v _ => v = .int .i64 (k : Int)
  | 2 => fun v _ => v = .slice A k c
  | 3 => fun v _ => v = (.agg (X.map bv).toArray)
  | 4 => fun v _ => v = .slice A n c
  | 5 => fun v _ => v = .int .i64 (k : Int)
  | 6 => fun v _ => v = .slice A2 m c2
  | 7 => fun v _ => v = (.agg (Y.map bv).toArray)
  | 8 => Made (rowH []) 44
  | 9 => Made (rowH []) 44
  | 10 => Stored 44
  | _ => fun _ _ => True
theorem tbF_lasts (A A2 : Option Addr) (n k m c c2 : Nat) (X Y : List UInt8) : ∀ kq, LastsB tbAl kq (tbF A A2 n k m c c2 X Y kq)
  | 0 => LastsB.val _
  | 1 => LastsB.val _
  | 2 => LastsB.val _
  | 3 => LastsB.val _
  | 4 => LastsB.val _
  | 5 => LastsB.val _
  | 6 => LastsB.val _
  | 7 => LastsB.val _
  | 8 => LastsB.made rfl _ _
  | 9 => LastsB.made rfl _ _
  | 10 => LastsB.stored rfl _
  | _ + 11 => fun _ _ _ _ _ _ _ => trivial
def tcS (t : Nat) : Bool := t == 29 || t == 30 || t == 31 || t == 32
def tcDie (_ : Nat) : Nat := 99
def tcOwn (_ : Nat) : Bool := false
def tcAl (k : Nat) : Bool := k == 0 || k == 1
def tcF (g2 g3 : Nat) (X Y Z : List UInt8) : Nat → Value → World → Prop
  | 0 => fun v _ => v = .slice (some ⟨g2, 0, none⟩) 32 32
  | 1 => fun v _ => v = .slice (some ⟨g3, 0, none⟩) 32 32
  | 2 => Part2 (hp g2 X) (hp g3 Y)
  | 3 => fun v _ => v = (.agg (Z.map bv).toArray)
  | _ => fun _ _ => True
theorem tcF_lasts (g2 g3 : Nat) (X Y Z : List UInt8) : ∀ kq, LastsB tcAl kq (tcF g2 g3 X Y Z kq)
  | 0 => LastsB.val _
  | 1 => LastsB.val _
  | 2 => LastsB.part2 rfl _ _
  | 3 => LastsB.val _
  | _ + 4 => fun _ _ _ _ _ _ _ => trivial

set_option maxRecDepth 100000 in
set_option maxHeartbeats 2000000 in
theorem RRoot_any : ∀ (n : Nat) (A : Option Addr) (ps : List Part) (c : Nat) (w : World), ps.length = n → n ≤ c → n ≤ 500 → (∀ p ∈ ps, p.2.1.length ≤ 1000) → RdP w A ps →
    Calls Tryd.prog 39 #[.slice A n c] w fun e w' => e = .returned (.agg ((rootL (leavesOf ps)).map bv).toArray) ∧ w.grownBy w' none := by
  intro n
  induction n using Nat.strongRecOn with
  | ind n ih =>
  intro A ps c w hn hc h5 hl hr
  by_cases h0 : n = 0
  · subst h0
    obtain rfl := List.length_eq_zero_iff.1 hn
    have htag := fun w' => RTagged_any 2 none [] 0 w' ⟨RdAt.nil, by simp⟩ (by simp [catP]) (by simp)
    obtain ⟨X, hX⟩ : ∃ X, X = tagL 2 (catP []) := ⟨_, rfl⟩
    rw [← hX] at htag
    have HX : Hid (X = rootL (leavesOf [])) := by show _ = _; rw [hX]; exact rootL_0.symm
    have hXl : Hid (X.length = 32) := by rw [hX]; exact tagL_len _ _
    rw [← HX.out]
    clear hX ih
    change ∀ w', Calls Tryd.prog 48 #[.int .u8 2, .slice none 0 0] w' _ at htag
    go_enter Tryd.func39, Tryd.ntmps39
    go_wp2_with (first
      | (go_at_call 48; refine (htag _ ).mono ?_; rintro e w6 ⟨rfl, hg6⟩)
      | (refine wpList_store_row rfl 44 _ _ rfl (w.heap.size) (X.map bv).toArray rfl rfl 44 _ (keep_of (alloc_at rfl) hg6) (hashV_size X hXl.out) (by rw [show (X.map bv).toArray.size = 32 from by rw [List.size_toArray, List.length_map, hXl.out]]; rfl) (bv_all' _) ?_))
    refine bodyPost_ret (results_cell_row rfl _ _ (w.heap.size) 44 (X.map bv).toArray (0, 0) _ rfl (setRow_heap _ _ _ _ _ _ (keep_of (alloc_at rfl) hg6)) Tryd.underlying44 rfl (hashV_size X hXl.out)) rfl ?_
    exact ⟨rfl, grown_setRow (grown_same (grown_alloc (grown_refl _ _) _) hg6) (.inr (by omega)) _⟩
  by_cases h1 : n = 1
  · subst h1
    obtain ⟨p, rfl⟩ := List.length_eq_one_iff.1 hn
    obtain ⟨ad, rfl, hc0, hr0⟩ := hr.get (k := 0) (by simp)
    have hl0 := hl p (by simp)
    obtain ⟨pA, pl, pc⟩ := p
    simp only [List.getElem_cons_zero] at hc0 hr0 hl0
    rw [show ad.add 0 = ad from by unfold Addr.add; split <;> simp_all] at hc0
    have htag := fun A' w' (h3 : RdP w' A' [(pA, pl, pc)]) => RTagged_any 0 A' [(pA, pl, pc)] 1 w' h3 (by simp [catP]; omega) (by simp)
    obtain ⟨X, hX⟩ : ∃ X, X = tagL 0 (catP [(pA, pl, pc)]) := ⟨_, rfl⟩
    rw [← hX] at htag
    have HX : Hid (X = rootL (leavesOf [(pA, pl, pc)])) := by show _ = _; rw [hX, show leavesOf [(pA, pl, pc)] = [pl] from rfl, rootL_1]; simp [catP]
    have hXl : Hid (X.length = 32) := by rw [hX]; exact tagL_len _ _
    rw [← HX.out]
    obtain ⟨m, hm⟩ : ∃ m, m = pl.length := ⟨_, rfl⟩
    rw [← hm] at hc0
    have hpv : Hid (pv (pA, pl, pc) = .slice pA m pc) := by show _ = _; rw [hm]; rfl
    have hc1 : ∀ o, (w.alloc o).cell? ad = some (.slice pA m pc) := fun o => (grown_alloc (grown_refl w none) o).cell hc0 (by simp)
    clear hX hm ih
    change ∀ A' w', RdP w' A' _ → Calls Tryd.prog 48 #[.int .u8 0, .slice A' 1 1] w' _ at htag
    go_enter Tryd.func39, Tryd.ntmps39
    go_wp2_with (first
      | (go_at_call 48; refine (htag _ _ (rdP_kept1 (by rw [hpv.out]; exact rd_row (cs := [_]) (alloc_at (by simp))) ((hr0.alloc _).alloc _))).mono ?_; rintro e w6 ⟨rfl, hg6⟩)
      | (refine wpList_store_row rfl 44 _ _ rfl (w.heap.size) (X.map bv).toArray rfl rfl 44 _ (keep_of (alloc_old (alloc_at rfl)) hg6) (hashV_size X hXl.out) (by rw [show (X.map bv).toArray.size = 32 from by rw [List.size_toArray, List.length_map, hXl.out]]; rfl) (bv_all' _) ?_))
    refine bodyPost_ret (results_cell_row rfl _ _ (w.heap.size) 44 (X.map bv).toArray (0, 0) _ rfl (setRow_heap _ _ _ _ _ _ (keep_of (alloc_old (alloc_at rfl)) hg6)) Tryd.underlying44 rfl (hashV_size X hXl.out)) rfl ?_
    exact ⟨rfl, grown_setRow (grown_same (grown_alloc (grown_alloc (grown_refl _ _) _) _) hg6) (.inr (by omega)) _⟩
  · have h2 : 2 ≤ n := by omega
    have hls := fun w' => half_any n (by omega) (by omega) w'
    have hk1 := halfN_pos n
    have hk2 := halfN_lt h2
    have hro1 := fun w' (hg : w.grownBy w' none) => ih (halfN n) hk2 A (ps.take (halfN n)) c w' (by rw [List.length_take]; omega) (by omega) (by omega) (fun p hp => hl p (List.mem_of_mem_take hp)) ((hr.take _).kept hg)
    have hro2 := fun w' (hg : w.grownBy w' none) => ih (n - halfN n) (by omega) (if c = halfN n then A else A.map (·.add (halfN n))) (ps.drop (halfN n)) (c - halfN n) w' (by rw [List.length_drop]; omega) (by omega) (by omega) (fun p hp => hl p (List.mem_of_mem_drop hp)) ((hr.cut (by omega)).kept hg)
    have hlo := fun w' => sl_loP A n c (halfN n) (by omega) w'
    obtain ⟨X, hX⟩ : ∃ X, X = rootL (leavesOf (ps.take (halfN n))) := ⟨_, rfl⟩
    obtain ⟨Y, hY⟩ : ∃ Y, Y = rootL (leavesOf (ps.drop (halfN n))) := ⟨_, rfl⟩
    have hXl : Hid (X.length = 32) := by rw [hX]; exact rootL_len _
    have hYl : Hid (Y.length = 32) := by rw [hY]; exact rootL_len _
    obtain ⟨Z, hz⟩ : ∃ Z, Z = tagL 1 (X ++ Y) := ⟨_, rfl⟩
    have hZl : Hid (Z.length = 32) := by rw [hz]; exact tagL_len _ _
    have HZ : Hid (rootL (leavesOf ps) = Z) := by
      show _ = _
      rw [rootL_2 (by rw [leavesOf_len]; omega), leavesOf_len, hn, hz, hX, hY, leavesOf_take, leavesOf_drop]
    rw [HZ.out]
    rw [← hX] at hro1
    rw [← hY] at hro2
    clear hX hY HZ ih hr hl
    have hZ := Lib.hid hz
    clear hz
    obtain ⟨A2, hA2⟩ : ∃ A2, A2 = (if c = halfN n then A else A.map (·.add (halfN n))) := ⟨_, rfl⟩
    obtain ⟨m, hm⟩ : ∃ m, m = n - halfN n := ⟨_, rfl⟩
    obtain ⟨c2, hc2⟩ : ∃ c2, c2 = c - halfN n := ⟨_, rfl⟩
    rw [← hA2, ← hm, ← hc2] at hro2 hlo
    clear hA2 hm hc2
    generalize halfN n = k at hls hk1 hk2 hro1 hlo
    have hkc : k ≤ c := by omega
    have e0 : ¬ (n : Int) = 0 := by omega
    have e1 : ¬ (n : Int) = 1 := by omega
    go_enter Tryd.func39, Tryd.ntmps39
    go_upto_region 7 with (go_at_call 38; refine (hls _).mono ?_; rintro e w5 ⟨rfl, rfl⟩)
    generalize hW : World.alloc w _ = W
    have hb2 : W.heap[w.heap.size]? = some (.cells (rowH []) 44 (0, 0)) := by rw [← hW]; exact alloc_at rfl
    have hgW : w.grownBy W none := by rw [← hW]; exact grown_alloc (grown_refl _ _) _
    clear hW
    replace hro1 := fun w' (h : W.grownBy w' none) => hro1 w' (grown_same hgW h)
    replace hro2 := fun w' (h : W.grownBy w' none) => hro2 w' (grown_same hgW h)
    refine wp_region_gb (al := tbAl) 11 (N := 33) (S := tbS) (die := tbDie) (own := tbOwn) (F := tbF A A2 n k m c c2 X Y) (by kernel_rfl) (Nat.le_of_ble_eq_true (by kernel_rfl)) (fun _ => by kernel_rfl) (fun _ => by kernel_rfl) (by kernel_rfl) (by kernel_rfl) (Nat.le_of_ble_eq_true (by kernel_rfl)) (tbF_lasts A A2 n k m c c2 X Y) ?_ ?_
    · intro i o L' a w K hi ho hg hLi hout hpre houter hitem h1 h2 h3
      have hcases : i = 0 ∨ i = 1 ∨ i = 2 ∨ i = 3 ∨ i = 4 ∨ i = 5 ∨ i = 6 ∨ i = 7 ∨ i = 8 ∨ i = 9 ∨ i = 10 := by omega
      rcases hcases with rfl | rfl | rfl | rfl | rfl | rfl | rfl | rfl | rfl | rfl | rfl
      · cases (show some _ = some o from ho)
        exact ⟨rfl, wp_move rfl (h1 ⟨_, rfl⟩ _ _ (grown_refl _ none) (houter _ rfl) (by rw [houter _ rfl]; exact nobl rfl) (by rw [houter _ rfl]; exact FreshB.none rfl))⟩
      · cases (show some _ = some o from ho)
        exact ⟨rfl, wp_move rfl (h1 ⟨_, rfl⟩ _ _ (grown_refl _ none) (houter _ rfl) (by rw [houter _ rfl]; exact nobl rfl) (by rw [houter _ rfl]; exact FreshB.none rfl))⟩
      · cases (show some _ = some o from ho)
        exact ⟨rfl, wp_slice_hi rfl (hitem 0 (by decide) ⟨hpre 0 rfl, hout _ (by decide)⟩) (hitem 1 (by decide) ⟨hpre 1 rfl, hout _ (by decide)⟩) (sl_hiP A n c k hkc _) (h1 ⟨_, rfl⟩ _ _ (grown_refl _ none) rfl (nobl rfl) (FreshB.none rfl))⟩
      · cases (show some _ = some o from ho)
        have x23 : a.eval (.tmp 23) = .slice A k c := hitem 2 (by decide) ⟨hpre 2 rfl, hout _ (by decide)⟩
        refine ⟨rfl, wp_call rfl Tryd.func39 (by kernel_rfl) (by kernel_rfl) (args := #[.slice A k c]) (by simp [x23]) ((hro1 w hg).mono ?_)⟩
        rintro e w' ⟨rfl, hg'⟩
        exact ⟨_, rfl, h1 ⟨_, rfl⟩ _ _ hg' rfl (nobl (blocks_bytes _)) (FreshB.none (blocks_bytes _))⟩
      · cases (show some _ = some o from ho)
        exact ⟨rfl, wp_move rfl (h1 ⟨_, rfl⟩ _ _ (grown_refl _ none) (houter _ rfl) (by rw [houter _ rfl]; exact nobl rfl) (by rw [houter _ rfl]; exact FreshB.none rfl))⟩
      · cases (show some _ = some o from ho)
        exact ⟨rfl, wp_move rfl (h1 ⟨_, rfl⟩ _ _ (grown_refl _ none) (houter _ rfl) (by rw [houter _ rfl]; exact nobl rfl) (by rw [houter _ rfl]; exact FreshB.none rfl))⟩
      · cases (show some _ = some o from ho)
        exact ⟨rfl, wp_slice_lo rfl (hitem 4 (by decide) ⟨hpre 4 rfl, hout _ (by decide)⟩) (hitem 5 (by decide) ⟨hpre 5 rfl, hout _ (by decide)⟩) (hlo _) (h1 ⟨_, rfl⟩ _ _ (grown_refl _ none) rfl (nobl rfl) (FreshB.none rfl))⟩
      · cases (show some _ = some o from ho)
        have x27 : a.eval (.tmp 27) = .slice A2 m c2 := hitem 6 (by decide) ⟨hpre 6 rfl, hout _ (by decide)⟩
        refine ⟨rfl, wp_call rfl Tryd.func39 (by kernel_rfl) (by kernel_rfl) (args := #[.slice A2 m c2]) (by simp [x27]) ((hro2 w hg).mono ?_)⟩
        rintro e w' ⟨rfl, hg'⟩
        exact ⟨_, rfl, h1 ⟨_, rfl⟩ _ _ hg' rfl (nobl (blocks_bytes _)) (FreshB.none (blocks_bytes _))⟩
      · cases (show some _ = some o from ho)
        exact ⟨rfl, wp_alloc rfl (alloc_H _) (h1 ⟨_, rfl⟩ _ _ (grown_alloc (grown_refl _ _) _) ⟨_, rfl, heap_alloc_new _ _⟩ (new_lt _ _) (FreshB.new (new_ge _)))⟩
      · cases (show some _ = some o from ho)
        exact ⟨rfl, wp_alloc rfl (alloc_H _) (h1 ⟨_, rfl⟩ _ _ (grown_alloc (grown_refl _ _) _) ⟨_, rfl, heap_alloc_new _ _⟩ (new_lt _ _) (FreshB.new (new_ge _)))⟩
      · cases (show some _ = some o from ho)
        obtain ⟨b, e1, hb⟩ := hitem 8 (by decide) ⟨hpre 8 rfl, hLi⟩
        have x2 : a.eval (.tmp 24) = .agg (X.map bv).toArray := hitem 3 (by decide) ⟨hpre 3 rfl, hout _ (by decide)⟩
        exact ⟨rfl, wp_store_row 44 _ _ rfl b (X.map bv).toArray e1 x2 44 _ hb (hashV_size _ hXl.out) (by rw [rowH_size _ (by simp), List.size_toArray, List.length_map, hXl.out]) (bv_all' _) (h3 rfl 8 _ _ (some b) (by decide) ⟨hpre 8 rfl, hLi⟩ rfl rfl (grown_setRow (grown_refl _ _) (.inl rfl) _) (fun g e => by cases e; rw [show valB _ a 8 = _ from e1]; exact List.mem_singleton.2 rfl) ⟨b, _, (by rw [show valB _ a 10 = .tuple #[a.eval (.tmp 4), a.eval (.tmp 24)] from rfl, show a.eval (.tmp 4) = _ from e1, x2]), setRow_heap _ _ _ _ _ _ hb⟩ (fun g h => by rw [show valB _ a 10 = .tuple #[a.eval (.tmp 4), a.eval (.tmp 24)] from rfl, show a.eval (.tmp 4) = _ from e1] at h; rw [show valB _ a 8 = _ from e1]; exact h))⟩
    · intro a wT hgT hend hap ha
      obtain ⟨f, hf⟩ : ∃ f : Nat → Value, f = fun t => a.tmps.getD t undef := ⟨_, rfl⟩
      have s24 : f 24 = (.agg (X.map bv).toArray) := by rw [hf]; exact (hend 3 (by decide) (by decide)).1
      have s28 : f 28 = (.agg (Y.map bv).toArray) := by rw [hf]; exact (hend 7 (by decide) (by decide)).1
      obtain ⟨⟨b4, C4, q4, hh4⟩, fr4⟩ := hend 10 (by decide) (by decide)
      have f4 : W.heap.size ≤ b4 := fr4 rfl b4 (by rw [q4]; exact List.mem_singleton.2 rfl)
      have p4 := tuple_two (show Value.tuple #[_, _] = _ from q4)
      have s4 := (congrFun hf 4).trans p4.1
      have v4 : f 24 = .agg C4 := (congrFun hf 24).trans p4.2
      obtain rfl := Value.agg.inj (v4.symm.trans s24)
      clear v4
      obtain ⟨⟨b5, q5, hh5⟩, fr5⟩ := hend 9 (by decide) (by decide)
      have f5 : W.heap.size ≤ b5 := fr5 rfl b5 (by rw [q5]; exact List.mem_singleton.2 rfl)
      have s5 := (congrFun hf 5).trans q5
      have n4_5 : b4 ≠ b5 := fun e => hap 10 9 (by decide) (by decide) (by decide) (by decide) (by decide) rfl b5 (by rw [q5]; exact List.mem_singleton.2 rfl) (by rw [q4, e]; exact List.mem_singleton.2 rfl)
      rw [← hf] at ha
      clear hend hap
      clear hf
      clear q4 p4 fr4 q5 fr5
      subst ha
      simp only [fill, tbS, Nat.reduceAdd, Nat.reduceBEq, Bool.or_false, Bool.or_true, cond_true, cond_false, List.drop_succ_cons, List.drop_zero, s24, s28, s4, s5]
      clear s24 s28 s4 s5
      have hgs : wT.grownBy (wT.setRow b5 (Y.map bv).toArray) (some b5) := grown_setRow (grown_refl _ _) (.inl rfl) _
      have hb3 : (wT.setRow b5 (Y.map bv).toArray).heap[b5]? = some (.cells (Y.map bv).toArray 44 (0, 0)) := setRow_heap _ _ _ _ _ _ hh5
      have hb4 : (wT.setRow b5 (Y.map bv).toArray).heap[b4]? = some (.cells (X.map bv).toArray 44 (0, 0)) := (setRow_other _ _ _ _ n4_5).trans hh4
      have hb1 : (wT.setRow b5 (Y.map bv).toArray).heap[w.heap.size]? = some (.cells (rowH []) 44 (0, 0)) := (setRow_other _ _ _ _ (by have := lt_of_heap hb2; omega)).trans (keep_of hb2 hgT)
      have hgB : w.grownBy (wT.setRow b5 (Y.map bv).toArray) none := grown_same hgW (grown_trans hgT hgs (.inr fun g e => by cases e; exact f5))
      clear hgs hb2 hgW hro1 hro2
      go_upto_region 8 with (refine wpList_store_row rfl 44 _ _ rfl b5 (Y.map bv).toArray rfl rfl 44 _ hh5 (hashV_size Y hYl.out) (by rw [show (Y.map bv).toArray.size = 32 from by rw [List.size_toArray, List.length_map, hYl.out]]; rfl) (bv_all' _) ?_; generalize wT.setRow b5 _ = V at hb1 hb3 hb4 hgB ⊢)
      have hgW := hgB
      have hb2 := hb4
      clear hgB hb4
      refine wp_region_gb (al := tcAl) 4 (N := 33) (S := tcS) (die := tcDie) (own := tcOwn) (F := tcF b4 b5 X Y Z) (by kernel_rfl) (Nat.le_of_ble_eq_true (by kernel_rfl)) (fun _ => by kernel_rfl) (fun _ => by kernel_rfl) (by kernel_rfl) (by kernel_rfl) (Nat.le_of_ble_eq_true (by kernel_rfl)) (tcF_lasts b4 b5 X Y Z) ?_ ?_
      · intro i o L' a w K hi ho hg hLi hout hpre houter hitem h1 h2 h3
        have hcases : i = 0 ∨ i = 1 ∨ i = 2 ∨ i = 3 := by omega
        rcases hcases with rfl | rfl | rfl | rfl
        · cases (show some _ = some o from ho)
          exact ⟨rfl, wp_slice_all rfl (houter 4 rfl) (sl_arr _ _ _) (h1 ⟨_, rfl⟩ _ _ (grown_refl _ none) rfl (nobl rfl) (FreshB.none rfl))⟩
        · cases (show some _ = some o from ho)
          exact ⟨rfl, wp_slice_all rfl (houter 5 rfl) (sl_arr _ _ _) (h1 ⟨_, rfl⟩ _ _ (grown_refl _ none) rfl (nobl rfl) (FreshB.none rfl))⟩
        · cases (show some _ = some o from ho)
          exact ⟨rfl, wp_lit2 rfl ((show a.eval (.tmp 29) = .slice (some ⟨b4, 0, none⟩) 32 32 from hitem 0 (by decide) ⟨hpre 0 rfl, hout _ (by decide)⟩).trans (pv_hp hXl.out)) ((show a.eval (.tmp 30) = .slice (some ⟨b5, 0, none⟩) 32 32 from hitem 1 (by decide) ⟨hpre 1 rfl, hout _ (by decide)⟩).trans (pv_hp hYl.out)) (lit_p2 _ _ _) (h1 ⟨_, rfl⟩ _ _ (grown_alloc (grown_refl _ _) _) ⟨_, rfl, rd_row (cs := [_, _]) (heap_alloc_new _ _)⟩ (new_lt _ _) (FreshB.new (new_ge _)))⟩
        · cases (show some _ = some o from ho)
          obtain ⟨b, e1, h4⟩ := hitem 2 (by decide) ⟨hpre 2 rfl, hout _ (by decide)⟩
          exact ⟨rfl, wp_rtag (t := 1) (ps := [hp b4 X, hp b5 Y]) (l := X ++ Y) rfl rfl e1 (rd_hp2 h4 (keep_of hb2 hg) (keep_of hb3 hg)) rfl (cat_hp2 _ _ _ _) (by rw [List.length_append, hXl.out, hYl.out]; omega) (by simp) (fun w' hg' => by rw [← hZ.out]; exact h1 ⟨_, rfl⟩ _ _ hg' rfl (nobl (blocks_bytes _)) (FreshB.none (blocks_bytes _)))⟩
      · intro a wT hgT hend hap ha
        obtain ⟨f, hf⟩ : ∃ f : Nat → Value, f = fun t => a.tmps.getD t undef := ⟨_, rfl⟩
        have s32 : f 32 = (.agg (Z.map bv).toArray) := by rw [hf]; exact (hend 3 (by decide) (by decide)).1
        rw [← hf] at ha
        clear hend hap
        clear hf
        subst ha
        simp only [Act.put, fill, tcS, Nat.reduceAdd, Nat.reduceBEq, Bool.or_false, Bool.or_true, cond_true, cond_false, List.drop_succ_cons, List.drop_zero, s32]
        clear s32
        replace hb2 := keep_of hb1 hgT
        go_wp2_with (refine wpList_store_row rfl 44 _ _ rfl (w.heap.size) (Z.map bv).toArray rfl rfl 44 _ (hb2) (hashV_size Z hZl.out) (by rw [show (Z.map bv).toArray.size = 32 from by rw [List.size_toArray, List.length_map, hZl.out]]; rfl) (bv_all' _) ?_)
        refine bodyPost_ret (results_cell_row rfl _ _ (w.heap.size) 44 (Z.map bv).toArray (0, 0) _ rfl (setRow_heap _ _ _ _ _ _ (hb2)) Tryd.underlying44 rfl (hashV_size Z hZl.out)) rfl ?_
        exact ⟨rfl, grown_setRow (grown_same hgW hgT) (.inr (by omega)) _⟩
end Go.Proofs.YtpeepiboocdnaaaDoor

namespace Go.Proofs.YtpeepiboocdnaaaDoor
open Go.RowKit

/-- A call's answer that is a row of hashes of its own: new blocks, nothing else touched. -/
def PathAt (w : World) (P : List UInt8) (n : Nat) (e : Ending) (w' : World) : Prop := ∃ v, e = .returned v ∧ OwnHs w' v P n ∧ w.grownBy w' none ∧ (∀ g ∈ blocksOf v, w.heap.size ≤ g) ∧ ∀ g ∈ blocksOf v, g < w'.heap.size
theorem PathAt.nil (w w' : World) (h : w.grownBy w' none) : PathAt w [] 0 (.returned (.slice none 0 0)) w' :=
  ⟨_, rfl, OwnHs.nil _, h, fun g e => (by cases e), fun g e => (by cases e)⟩
theorem PathAt.from {w0 w : World} {P : List UInt8} {n : Nat} {e : Ending} {w' : World} (h : PathAt w P n e w') (hg : w0.grownBy w none) : PathAt w0 P n e w' := by
  obtain ⟨v, h1, h2, h3, h4, h5⟩ := h
  exact ⟨v, h1, h2, grown_same hg h3, fun g e => Nat.le_trans hg.size (h4 g e), h5⟩
def Hash1 (Y : List UInt8) (v : Value) (w : World) : Prop := ∃ b, v = .slice (some ⟨b, 0, none⟩) 1 1 ∧ RdB w (some ⟨b, 0, none⟩) Y
theorem LastsB.hash1 {al : Nat → Bool} {k : Nat} (ha : al k = false) (Y : List UInt8) : LastsB al k (Hash1 Y) := by
  rintro v w w' row ⟨b, rfl, h⟩ hg hne
  exact ⟨b, rfl, h.keep hg (fun ad e => by cases e; exact hne b (by simp [bl, ha, blocksOf]))⟩
theorem sub_nat (i k : Nat) (h : k ≤ i) (hi : i ≤ 1000000) (w : World) : (binOp .sub 3 (.int .i64 (i : Int)) (.int .i64 (k : Int))).run Tryd.prog w = .ok (.int .i64 ((i - k : Nat) : Int)) w := by
  rw [show ((i - k : Nat) : Int) = (i : Int) - (k : Int) by omega]
  have e : (binOp .sub 3 (.int .i64 (i : Int)) (.int .i64 (k : Int))).run Tryd.prog w = .ok (.int .i64 (IntKind.i64.wrap ((i : Int) - (k : Int)))) w := by kernel_rfl
  rw [e, IntWalk.i64_in _ ⟨by omega, by omega⟩]
theorem guard_subI (x y : Operand) (xv yv : Value) (w : World) : (eqGuard .sub 3 x y xv yv).run Tryd.prog w = .ok () w := by kernel_rfl
theorem pathL_le (l : List (List UInt8)) (i : Nat) : (pathL l i).length ≤ l.length := by
  by_cases h : i < l.length
  · rw [pathL_len l i h]; exact depthN_lt _ _
  · rw [pathL_0 (.inr (by omega))]; exact Nat.zero_le _

set_option maxRecDepth 100000 in
theorem Path_neg (n : Nat) (A : Option Addr) (c : Nat) (i : Int) (hi : i < 0) (w0 : World) :
    Calls Tryd.prog 21 #[.slice A n c, .int .i64 i] w0 fun e w' => PathAt w0 [] 0 e w' := by
  go_enter Tryd.func21, Tryd.ntmps21
  go_wp2_with fail
  go_ret
  exact PathAt.nil _ _ (grown_refl _ _)
def plS (t : Nat) : Bool := t == 4 || t == 25 || t == 26 || t == 27 || t == 28 || t == 29 || t == 30 || t == 31 || t == 32 || t == 33 || t == 34 || t == 35
def plDie (k : Nat) : Nat := if k = 4 then 10 else if k = 10 then 11 else 99
def plOwn (k : Nat) : Bool := k == 4 || k == 10 || k == 11
def plAl (k : Nat) : Bool := k == 0 || k == 2 || k == 5 || k == 7
def plF (A A2 : Option Addr) (n k m c c2 i d : Nat) (P Y : List UInt8) : Nat → Value → World → Prop
  | 0 => fun v _ => v = .slice A n c
  | 1 => fun v _ => v = .int .i64 (k : Int)
  | 2 => fun v _ => v = .slice A k c
  | 3 => fun v _ => v = .int .i64 (i : Int)
  | 4 => fun v w => OwnHs w v P d
  | 5 => fun v _ => v = .slice A n c
  | 6 => fun v _ => v = .int .i64 (k : Int)
  | 7 => fun v _ => v = .slice A2 m c2
  | 8 => fun v _ => v = (.agg (Y.map bv).toArray)
  | 9 => Hash1 Y
  | 10 => fun v w => OwnHs w v (P ++ Y) (d + 1)
  | 11 => fun v w => OwnHs w v (P ++ Y) (d + 1)
  | _ => fun _ _ => True
theorem plF_lasts (A A2 : Option Addr) (n k m c c2 i d : Nat) (P Y : List UInt8) : ∀ kq, LastsB plAl kq (plF A A2 n k m c c2 i d P Y kq)
  | 0 => LastsB.val _
  | 1 => LastsB.val _
  | 2 => LastsB.val _
  | 3 => LastsB.val _
  | 4 => LastsB.ownH rfl _ _
  | 5 => LastsB.val _
  | 6 => LastsB.val _
  | 7 => LastsB.val _
  | 8 => LastsB.val _
  | 9 => LastsB.hash1 rfl _
  | 10 => LastsB.ownH rfl _ _
  | 11 => LastsB.ownH rfl _ _
  | _ + 12 => fun _ _ _ _ _ _ _ => trivial
def prS (t : Nat) : Bool := t == 4 || t == 36 || t == 37 || t == 38 || t == 39 || t == 40 || t == 41 || t == 42 || t == 43 || t == 44 || t == 45 || t == 46 || t == 47 || t == 48
def prDie (k : Nat) : Nat := if k = 6 then 12 else if k = 12 then 13 else 99
def prOwn (k : Nat) : Bool := k == 6 || k == 12 || k == 13
def prAl (k : Nat) : Bool := k == 0 || k == 2 || k == 7 || k == 9
def prF (A A2 : Option Addr) (n k m c c2 i i2 d : Nat) (P Y : List UInt8) : Nat → Value → World → Prop
  | 0 => fun v _ => v = .slice A n c
  | 1 => fun v _ => v = .int .i64 (k : Int)
  | 2 => fun v _ => v = .slice A2 m c2
  | 3 => fun v _ => v = .int .i64 (i : Int)
  | 4 => fun v _ => v = .int .i64 (k : Int)
  | 5 => fun v _ => v = .int .i64 (i2 : Int)
  | 6 => fun v w => OwnHs w v P d
  | 7 => fun v _ => v = .slice A n c
  | 8 => fun v _ => v = .int .i64 (k : Int)
  | 9 => fun v _ => v = .slice A k c
  | 10 => fun v _ => v = (.agg (Y.map bv).toArray)
  | 11 => Hash1 Y
  | 12 => fun v w => OwnHs w v (P ++ Y) (d + 1)
  | 13 => fun v w => OwnHs w v (P ++ Y) (d + 1)
  | _ => fun _ _ => True
theorem prF_lasts (A A2 : Option Addr) (n k m c c2 i i2 d : Nat) (P Y : List UInt8) : ∀ kq, LastsB prAl kq (prF A A2 n k m c c2 i i2 d P Y kq)
  | 0 => LastsB.val _
  | 1 => LastsB.val _
  | 2 => LastsB.val _
  | 3 => LastsB.val _
  | 4 => LastsB.val _
  | 5 => LastsB.val _
  | 6 => LastsB.ownH rfl _ _
  | 7 => LastsB.val _
  | 8 => LastsB.val _
  | 9 => LastsB.val _
  | 10 => LastsB.val _
  | 11 => LastsB.hash1 rfl _
  | 12 => LastsB.ownH rfl _ _
  | 13 => LastsB.ownH rfl _ _
  | _ + 14 => fun _ _ _ _ _ _ _ => trivial

set_option maxRecDepth 100000 in
set_option maxHeartbeats 2000000 in
theorem Path_any : ∀ (n : Nat) (A : Option Addr) (ps : List Part) (c i : Nat) (w0 : World), ps.length = n → n ≤ c → n ≤ 500 → i ≤ 1000 → (∀ p ∈ ps, p.2.1.length ≤ 1000) → Laid2 w0 → RdP w0 A ps →
    Calls Tryd.prog 21 #[.slice A n c, .int .i64 (i : Int)] w0 fun e w' => PathAt w0 (pathL (leavesOf ps) i).flatten (pathL (leavesOf ps) i).length e w' := by
  intro n
  induction n using Nat.strongRecOn with
  | ind n ih =>
  intro A ps c i w0 hn hc h5 hi hl hk hr
  have i0 : ¬ (i : Int) < 0 := by omega
  by_cases h0 : n ≤ i
  · have i1 : (n : Int) ≤ (i : Int) := by omega
    rw [pathL_0 (.inr (by rw [leavesOf_len]; omega))]
    go_enter Tryd.func21, Tryd.ntmps21
    go_wp2_with fail
    go_ret
    exact PathAt.nil _ _ (grown_refl _ _)
  have i1 : ¬ (n : Int) ≤ (i : Int) := by omega
  by_cases h1 : n = 1
  · subst h1
    rw [pathL_0 (.inl (by rw [leavesOf_len]; omega))]
    go_enter Tryd.func21, Tryd.ntmps21
    go_wp2_with fail
    go_ret
    exact PathAt.nil _ _ (grown_refl _ _)
  have h2 : 2 ≤ n := by omega
  have n1 : ¬ (n : Int) = 1 := by omega
  have hls := fun w' => leftSize_any n (by omega) (by omega) w'
  have hk1 := halfN_pos n
  have hk2 := halfN_lt h2
  have hlo := fun w' => sl_loP A n c (halfN n) (by omega) w'
  by_cases hik : i < halfN n
  · have hpa := fun w' (hg : w0.grownBy w' none) => ih (halfN n) hk2 A (ps.take (halfN n)) c i w' (by rw [List.length_take]; omega) (by omega) (by omega) hi (fun p hp => hl p (List.mem_of_mem_take hp)) (hk.kept hg) ((hr.take _).kept hg)
    have hro := fun w' (hg : w0.grownBy w' none) => Root_any (n - halfN n) (if c = halfN n then A else A.map (·.add (halfN n))) (ps.drop (halfN n)) (c - halfN n) w' (by rw [List.length_drop]; omega) (by omega) (by omega) (fun p hp => hl p (List.mem_of_mem_drop hp)) (hk.kept hg) ((hr.cut (by omega)).kept hg)
    obtain ⟨P, hP⟩ : ∃ P, P = (pathL (leavesOf (ps.take (halfN n))) i).flatten := ⟨_, rfl⟩
    obtain ⟨d, hd0⟩ : ∃ d, d = (pathL (leavesOf (ps.take (halfN n))) i).length := ⟨_, rfl⟩
    obtain ⟨Y, hY⟩ : ∃ Y, Y = rootL (leavesOf (ps.drop (halfN n))) := ⟨_, rfl⟩
    have hYl : Hid (Y.length = 32) := by rw [hY]; exact rootL_len _
    have hd : Hid (d ≤ 1000) := by
      show d ≤ 1000
      have := pathL_le (leavesOf (ps.take (halfN n))) i
      rw [leavesOf_len, List.length_take] at this
      omega
    have HP : Hid ((pathL (leavesOf ps) i).flatten = P ++ Y) := by
      show _ = _
      rw [pathL_l (by rw [leavesOf_len]; omega) (by rw [leavesOf_len, hn]; exact hik), leavesOf_len, hn, ← leavesOf_take, ← leavesOf_drop, List.flatten_append, List.flatten_singleton, ← hP, ← hY]
    have HD : Hid ((pathL (leavesOf ps) i).length = d + 1) := by
      show _ = _
      rw [pathL_l (by rw [leavesOf_len]; omega) (by rw [leavesOf_len, hn]; exact hik), leavesOf_len, hn, ← leavesOf_take, ← leavesOf_drop, List.length_append, List.length_singleton, ← hd0]
    rw [← hP, ← hd0] at hpa
    rw [← hY] at hro
    clear hP hd0 hY ih hr hl
    obtain ⟨A2, hA2⟩ : ∃ A2, A2 = (if c = halfN n then A else A.map (·.add (halfN n))) := ⟨_, rfl⟩
    obtain ⟨m, hm⟩ : ∃ m, m = n - halfN n := ⟨_, rfl⟩
    obtain ⟨c2, hc2⟩ : ∃ c2, c2 = c - halfN n := ⟨_, rfl⟩
    rw [← hA2, ← hm, ← hc2] at hro hlo
    clear hA2 hm hc2
    have hik2 : (i : Int) < (halfN n : Int) := by omega
    generalize halfN n = k at hls hk1 hk2 hpa hlo hik hik2
    have hkc : k ≤ c := by omega
    go_enter Tryd.func21, Tryd.ntmps21
    go_upto_region 5 with (go_at_call 33; refine (hls _).mono ?_; rintro e w5 ⟨rfl, h5w⟩; obtain rfl : w0 = w5 := h5w.symm)
    refine wp_region_gb (al := plAl) 12 (N := 49) (S := plS) (die := plDie) (own := plOwn) (F := plF A A2 n k m c c2 i d P Y) (by kernel_rfl) (Nat.le_of_ble_eq_true (by kernel_rfl)) (fun h => absurd (show 12 < 12 from h) (Nat.lt_irrefl _)) (fun h => absurd (show 12 < 12 from h) (Nat.lt_irrefl _)) (by kernel_rfl) (by kernel_rfl) (Nat.le_of_ble_eq_true (by kernel_rfl)) (plF_lasts A A2 n k m c c2 i d P Y) ?_ ?_
    · intro i o L' a w K hi ho hg hLi hout hpre houter hitem h1 h2 h3
      have hcases : i = 0 ∨ i = 1 ∨ i = 2 ∨ i = 3 ∨ i = 4 ∨ i = 5 ∨ i = 6 ∨ i = 7 ∨ i = 8 ∨ i = 9 ∨ i = 10 ∨ i = 11 := by omega
      rcases hcases with rfl | rfl | rfl | rfl | rfl | rfl | rfl | rfl | rfl | rfl | rfl | rfl
      · cases (show some _ = some o from ho)
        exact ⟨rfl, wp_move rfl (h1 ⟨_, rfl⟩ _ _ (grown_refl _ none) (houter _ rfl) (by rw [houter _ rfl]; exact nobl rfl) (by rw [houter _ rfl]; exact FreshB.none rfl))⟩
      · cases (show some _ = some o from ho)
        exact ⟨rfl, wp_move rfl (h1 ⟨_, rfl⟩ _ _ (grown_refl _ none) (houter _ rfl) (by rw [houter _ rfl]; exact nobl rfl) (by rw [houter _ rfl]; exact FreshB.none rfl))⟩
      · cases (show some _ = some o from ho)
        exact ⟨rfl, wp_slice_hi rfl (hitem 0 (by decide) ⟨hpre 0 rfl, hout _ (by decide)⟩) (hitem 1 (by decide) ⟨hpre 1 rfl, hout _ (by decide)⟩) (sl_hiP A n c k hkc _) (h1 ⟨_, rfl⟩ _ _ (grown_refl _ none) rfl (nobl rfl) (FreshB.none rfl))⟩
      · cases (show some _ = some o from ho)
        exact ⟨rfl, wp_move rfl (h1 ⟨_, rfl⟩ _ _ (grown_refl _ none) (houter _ rfl) (by rw [houter _ rfl]; exact nobl rfl) (by rw [houter _ rfl]; exact FreshB.none rfl))⟩
      · cases (show some _ = some o from ho)
        have x27 : a.eval (.tmp 27) = .slice A k c := hitem 2 (by decide) ⟨hpre 2 rfl, hout _ (by decide)⟩
        have x28 : a.eval (.tmp 28) = .int .i64 (i : Int) := hitem 3 (by decide) ⟨hpre 3 rfl, hout _ (by decide)⟩
        refine ⟨rfl, wp_call rfl Tryd.func21 (by kernel_rfl) (by kernel_rfl) (args := #[.slice A k c, .int .i64 (i : Int)]) (by simp [x27, x28]) ((hpa w hg).mono ?_)⟩
        rintro e w' ⟨v, rfl, hf', hg', hn', ht'⟩
        exact ⟨_, rfl, h1 ⟨_, rfl⟩ _ _ hg' hf' ht' (FreshB.new hn')⟩
      · cases (show some _ = some o from ho)
        exact ⟨rfl, wp_move rfl (h1 ⟨_, rfl⟩ _ _ (grown_refl _ none) (houter _ rfl) (by rw [houter _ rfl]; exact nobl rfl) (by rw [houter _ rfl]; exact FreshB.none rfl))⟩
      · cases (show some _ = some o from ho)
        exact ⟨rfl, wp_move rfl (h1 ⟨_, rfl⟩ _ _ (grown_refl _ none) (houter _ rfl) (by rw [houter _ rfl]; exact nobl rfl) (by rw [houter _ rfl]; exact FreshB.none rfl))⟩
      · cases (show some _ = some o from ho)
        exact ⟨rfl, wp_slice_lo rfl (hitem 5 (by decide) ⟨hpre 5 rfl, hout _ (by decide)⟩) (hitem 6 (by decide) ⟨hpre 6 rfl, hout _ (by decide)⟩) (hlo _) (h1 ⟨_, rfl⟩ _ _ (grown_refl _ none) rfl (nobl rfl) (FreshB.none rfl))⟩
      · cases (show some _ = some o from ho)
        have x32 : a.eval (.tmp 32) = .slice A2 m c2 := hitem 7 (by decide) ⟨hpre 7 rfl, hout _ (by decide)⟩
        refine ⟨rfl, wp_call rfl Tryd.func34 (by kernel_rfl) (by kernel_rfl) (args := #[.slice A2 m c2]) (by simp [x32]) ((hro w hg).mono ?_)⟩
        rintro e w' ⟨rfl, hg'⟩
        exact ⟨_, rfl, h1 ⟨_, rfl⟩ _ _ hg' rfl (nobl (blocks_bytes _)) (FreshB.none (blocks_bytes _))⟩
      · cases (show some _ = some o from ho)
        exact ⟨rfl, wp_lit1 rfl (hitem 8 (by decide) ⟨hpre 8 rfl, hout _ (by decide)⟩) (lit_1h Y hYl.out _) (h1 ⟨_, rfl⟩ _ _ (grown_alloc (grown_refl _ _) _) ⟨_, rfl, rd_row (heap_alloc_new _ _)⟩ (new_lt _ _) (FreshB.new (new_ge _)))⟩
      · cases (show some _ = some o from ho)
        have hu := hitem 4 (by decide) ⟨hpre 4 rfl, hLi⟩
        obtain ⟨b, e1, hb⟩ := hitem 9 (by decide) ⟨hpre 9 rfl, hout _ (by decide)⟩
        exact ⟨rfl, wp_appH rfl rfl hu e1 hb (by rw [hYl.out]) (by omega) (by have := hd.out; omega) fun v w' hv hw => h2 ⟨_, rfl⟩ 4 v w' _ (by decide) ⟨hpre 4 rfl, hLi⟩ rfl rfl hw.1 (ownH_mem hu) hv (ownH_lt hv) (grewH_blocks hu hv hw)⟩
      · cases (show some _ = some o from ho)
        have hu := hitem 10 (by decide) ⟨hpre 10 rfl, hLi⟩
        exact ⟨rfl, wp_assign rfl (h2 ⟨_, rfl⟩ 10 _ _ none (by decide) ⟨hpre 10 rfl, hLi⟩ rfl rfl (grown_refl _ none) (fun g e => by cases e) hu (ownH_lt hu) (fun g e => .inr (.inl e)))⟩
    · intro a wT hgT hend hap ha
      obtain ⟨f, hf⟩ : ∃ f : Nat → Value, f = fun t => a.tmps.getD t undef := ⟨_, rfl⟩
      obtain ⟨v4, s4, ho4, hn4⟩ : ∃ v, f 4 = v ∧ OwnHs wT v (P ++ Y) (d + 1) ∧ ∀ g ∈ blocksOf v, w0.heap.size ≤ g := ⟨_, congrFun hf 4, (hend 11 (by decide) (by decide)).1, (hend 11 (by decide) (by decide)).2 rfl⟩
      rw [← hf] at ha
      clear hend hap
      clear hf
      subst ha
      simp only [fill, plS, Nat.reduceAdd, Nat.reduceBEq, Bool.or_false, Bool.or_true, cond_true, cond_false, List.drop_succ_cons, List.drop_zero, s4]
      clear s4
      go_wp2_with fail
      go_ret
      rw [HP.out, HD.out]
      exact ⟨v4, rfl, ho4, hgT, hn4, ownH_lt ho4⟩
  · have hpa := fun w' (hg : w0.grownBy w' none) => ih (n - halfN n) (by omega) (if c = halfN n then A else A.map (·.add (halfN n))) (ps.drop (halfN n)) (c - halfN n) (i - halfN n) w' (by rw [List.length_drop]; omega) (by omega) (by omega) (by omega) (fun p hp => hl p (List.mem_of_mem_drop hp)) (hk.kept hg) ((hr.cut (by omega)).kept hg)
    have hro := fun w' (hg : w0.grownBy w' none) => Root_any (halfN n) A (ps.take (halfN n)) c w' (by rw [List.length_take]; omega) (by omega) (by omega) (fun p hp => hl p (List.mem_of_mem_take hp)) (hk.kept hg) ((hr.take _).kept hg)
    obtain ⟨P, hP⟩ : ∃ P, P = (pathL (leavesOf (ps.drop (halfN n))) (i - halfN n)).flatten := ⟨_, rfl⟩
    obtain ⟨d, hd0⟩ : ∃ d, d = (pathL (leavesOf (ps.drop (halfN n))) (i - halfN n)).length := ⟨_, rfl⟩
    obtain ⟨Y, hY⟩ : ∃ Y, Y = rootL (leavesOf (ps.take (halfN n))) := ⟨_, rfl⟩
    have hYl : Hid (Y.length = 32) := by rw [hY]; exact rootL_len _
    have hd : Hid (d ≤ 1000) := by
      show d ≤ 1000
      have := pathL_le (leavesOf (ps.drop (halfN n))) (i - halfN n)
      rw [leavesOf_len, List.length_drop] at this
      omega
    have HP : Hid ((pathL (leavesOf ps) i).flatten = P ++ Y) := by
      show _ = _
      rw [pathL_r (by rw [leavesOf_len]; omega) (by rw [leavesOf_len]; omega) (by rw [leavesOf_len, hn]; exact hik), leavesOf_len, hn, ← leavesOf_take, ← leavesOf_drop, List.flatten_append, List.flatten_singleton, ← hP, ← hY]
    have HD : Hid ((pathL (leavesOf ps) i).length = d + 1) := by
      show _ = _
      rw [pathL_r (by rw [leavesOf_len]; omega) (by rw [leavesOf_len]; omega) (by rw [leavesOf_len, hn]; exact hik), leavesOf_len, hn, ← leavesOf_take, ← leavesOf_drop, List.length_append, List.length_singleton, ← hd0]
    rw [← hP, ← hd0] at hpa
    rw [← hY] at hro
    clear hP hd0 hY ih hr hl
    obtain ⟨A2, hA2⟩ : ∃ A2, A2 = (if c = halfN n then A else A.map (·.add (halfN n))) := ⟨_, rfl⟩
    obtain ⟨m, hm⟩ : ∃ m, m = n - halfN n := ⟨_, rfl⟩
    obtain ⟨c2, hc2⟩ : ∃ c2, c2 = c - halfN n := ⟨_, rfl⟩
    have hsub := fun w' => sub_nat i (halfN n) (by omega) (by omega) w'
    obtain ⟨i2, hi2⟩ : ∃ i2, i2 = i - halfN n := ⟨_, rfl⟩
    rw [← hA2, ← hm, ← hc2, ← hi2] at hpa
    rw [← hA2, ← hm, ← hc2] at hlo
    rw [← hi2] at hsub
    clear hi2
    clear hA2 hm hc2
    have hik2 : ¬ (i : Int) < (halfN n : Int) := by omega
    generalize halfN n = k at hls hk1 hk2 hro hsub hlo hik hik2
    have hkc : k ≤ c := by omega
    go_enter Tryd.func21, Tryd.ntmps21
    go_upto_region 6 with (go_at_call 33; refine (hls _).mono ?_; rintro e w5 ⟨rfl, h5w⟩; obtain rfl : w0 = w5 := h5w.symm)
    refine wp_region_gb (al := prAl) 14 (N := 49) (S := prS) (die := prDie) (own := prOwn) (F := prF A A2 n k m c c2 i i2 d P Y) (by kernel_rfl) (Nat.le_of_ble_eq_true (by kernel_rfl)) (fun h => absurd (show 14 < 14 from h) (Nat.lt_irrefl _)) (fun h => absurd (show 14 < 14 from h) (Nat.lt_irrefl _)) (by kernel_rfl) (by kernel_rfl) (Nat.le_of_ble_eq_true (by kernel_rfl)) (prF_lasts A A2 n k m c c2 i i2 d P Y) ?_ ?_
    · intro i o L' a w K hi ho hg hLi hout hpre houter hitem h1 h2 h3
      have hcases : i = 0 ∨ i = 1 ∨ i = 2 ∨ i = 3 ∨ i = 4 ∨ i = 5 ∨ i = 6 ∨ i = 7 ∨ i = 8 ∨ i = 9 ∨ i = 10 ∨ i = 11 ∨ i = 12 ∨ i = 13 := by omega
      rcases hcases with rfl | rfl | rfl | rfl | rfl | rfl | rfl | rfl | rfl | rfl | rfl | rfl | rfl | rfl
      · cases (show some _ = some o from ho)
        exact ⟨rfl, wp_move rfl (h1 ⟨_, rfl⟩ _ _ (grown_refl _ none) (houter _ rfl) (by rw [houter _ rfl]; exact nobl rfl) (by rw [houter _ rfl]; exact FreshB.none rfl))⟩
      · cases (show some _ = some o from ho)
        exact ⟨rfl, wp_move rfl (h1 ⟨_, rfl⟩ _ _ (grown_refl _ none) (houter _ rfl) (by rw [houter _ rfl]; exact nobl rfl) (by rw [houter _ rfl]; exact FreshB.none rfl))⟩
      · cases (show some _ = some o from ho)
        exact ⟨rfl, wp_slice_lo rfl (hitem 0 (by decide) ⟨hpre 0 rfl, hout _ (by decide)⟩) (hitem 1 (by decide) ⟨hpre 1 rfl, hout _ (by decide)⟩) (hlo _) (h1 ⟨_, rfl⟩ _ _ (grown_refl _ none) rfl (nobl rfl) (FreshB.none rfl))⟩
      · cases (show some _ = some o from ho)
        exact ⟨rfl, wp_move rfl (h1 ⟨_, rfl⟩ _ _ (grown_refl _ none) (houter _ rfl) (by rw [houter _ rfl]; exact nobl rfl) (by rw [houter _ rfl]; exact FreshB.none rfl))⟩
      · cases (show some _ = some o from ho)
        exact ⟨rfl, wp_move rfl (h1 ⟨_, rfl⟩ _ _ (grown_refl _ none) (houter _ rfl) (by rw [houter _ rfl]; exact nobl rfl) (by rw [houter _ rfl]; exact FreshB.none rfl))⟩
      · cases (show some _ = some o from ho)
        exact ⟨rfl, wp_bin rfl (hitem 3 (by decide) ⟨hpre 3 rfl, hout _ (by decide)⟩) (hitem 4 (by decide) ⟨hpre 4 rfl, hout _ (by decide)⟩) (guard_subI _ _ _ _ _) (hsub _) (h1 ⟨_, rfl⟩ _ _ (grown_refl _ none) rfl (nobl rfl) (FreshB.none rfl))⟩
      · cases (show some _ = some o from ho)
        have x38 : a.eval (.tmp 38) = .slice A2 m c2 := hitem 2 (by decide) ⟨hpre 2 rfl, hout _ (by decide)⟩
        have x41 : a.eval (.tmp 41) = .int .i64 (i2 : Int) := hitem 5 (by decide) ⟨hpre 5 rfl, hout _ (by decide)⟩
        refine ⟨rfl, wp_call rfl Tryd.func21 (by kernel_rfl) (by kernel_rfl) (args := #[.slice A2 m c2, .int .i64 (i2 : Int)]) (by simp [x38, x41]) ((hpa w hg).mono ?_)⟩
        rintro e w' ⟨v, rfl, hf', hg', hn', ht'⟩
        exact ⟨_, rfl, h1 ⟨_, rfl⟩ _ _ hg' hf' ht' (FreshB.new hn')⟩
      · cases (show some _ = some o from ho)
        exact ⟨rfl, wp_move rfl (h1 ⟨_, rfl⟩ _ _ (grown_refl _ none) (houter _ rfl) (by rw [houter _ rfl]; exact nobl rfl) (by rw [houter _ rfl]; exact FreshB.none rfl))⟩
      · cases (show some _ = some o from ho)
        exact ⟨rfl, wp_move rfl (h1 ⟨_, rfl⟩ _ _ (grown_refl _ none) (houter _ rfl) (by rw [houter _ rfl]; exact nobl rfl) (by rw [houter _ rfl]; exact FreshB.none rfl))⟩
      · cases (show some _ = some o from ho)
        exact ⟨rfl, wp_slice_hi rfl (hitem 7 (by decide) ⟨hpre 7 rfl, hout _ (by decide)⟩) (hitem 8 (by decide) ⟨hpre 8 rfl, hout _ (by decide)⟩) (sl_hiP A n c k hkc _) (h1 ⟨_, rfl⟩ _ _ (grown_refl _ none) rfl (nobl rfl) (FreshB.none rfl))⟩
      · cases (show some _ = some o from ho)
        have x45 : a.eval (.tmp 45) = .slice A k c := hitem 9 (by decide) ⟨hpre 9 rfl, hout _ (by decide)⟩
        refine ⟨rfl, wp_call rfl Tryd.func34 (by kernel_rfl) (by kernel_rfl) (args := #[.slice A k c]) (by simp [x45]) ((hro w hg).mono ?_)⟩
        rintro e w' ⟨rfl, hg'⟩
        exact ⟨_, rfl, h1 ⟨_, rfl⟩ _ _ hg' rfl (nobl (blocks_bytes _)) (FreshB.none (blocks_bytes _))⟩
      · cases (show some _ = some o from ho)
        exact ⟨rfl, wp_lit1 rfl (hitem 10 (by decide) ⟨hpre 10 rfl, hout _ (by decide)⟩) (lit_1h Y hYl.out _) (h1 ⟨_, rfl⟩ _ _ (grown_alloc (grown_refl _ _) _) ⟨_, rfl, rd_row (heap_alloc_new _ _)⟩ (new_lt _ _) (FreshB.new (new_ge _)))⟩
      · cases (show some _ = some o from ho)
        have hu := hitem 6 (by decide) ⟨hpre 6 rfl, hLi⟩
        obtain ⟨b, e1, hb⟩ := hitem 11 (by decide) ⟨hpre 11 rfl, hout _ (by decide)⟩
        exact ⟨rfl, wp_appH rfl rfl hu e1 hb (by rw [hYl.out]) (by omega) (by have := hd.out; omega) fun v w' hv hw => h2 ⟨_, rfl⟩ 6 v w' _ (by decide) ⟨hpre 6 rfl, hLi⟩ rfl rfl hw.1 (ownH_mem hu) hv (ownH_lt hv) (grewH_blocks hu hv hw)⟩
      · cases (show some _ = some o from ho)
        have hu := hitem 12 (by decide) ⟨hpre 12 rfl, hLi⟩
        exact ⟨rfl, wp_assign rfl (h2 ⟨_, rfl⟩ 12 _ _ none (by decide) ⟨hpre 12 rfl, hLi⟩ rfl rfl (grown_refl _ none) (fun g e => by cases e) hu (ownH_lt hu) (fun g e => .inr (.inl e)))⟩
    · intro a wT hgT hend hap ha
      obtain ⟨f, hf⟩ : ∃ f : Nat → Value, f = fun t => a.tmps.getD t undef := ⟨_, rfl⟩
      obtain ⟨v4, s4, ho4, hn4⟩ : ∃ v, f 4 = v ∧ OwnHs wT v (P ++ Y) (d + 1) ∧ ∀ g ∈ blocksOf v, w0.heap.size ≤ g := ⟨_, congrFun hf 4, (hend 13 (by decide) (by decide)).1, (hend 13 (by decide) (by decide)).2 rfl⟩
      rw [← hf] at ha
      clear hend hap
      clear hf
      subst ha
      simp only [fill, prS, Nat.reduceAdd, Nat.reduceBEq, Bool.or_false, Bool.or_true, cond_true, cond_false, List.drop_succ_cons, List.drop_zero, s4]
      clear s4
      go_wp2_with fail
      go_ret
      rw [HP.out, HD.out]
      exact ⟨v4, rfl, ho4, hgT, hn4, ownH_lt ho4⟩

set_option maxRecDepth 100000 in
theorem RPath_neg (n : Nat) (A : Option Addr) (c : Nat) (i : Int) (hi : i < 0) (w0 : World) :
    Calls Tryd.prog 27 #[.slice A n c, .int .i64 i] w0 fun e w' => PathAt w0 [] 0 e w' := by
  go_enter Tryd.func27, Tryd.ntmps27
  go_wp2_with fail
  go_ret
  exact PathAt.nil _ _ (grown_refl _ _)
def rlS (t : Nat) : Bool := t == 4 || t == 25 || t == 26 || t == 27 || t == 28 || t == 29 || t == 30 || t == 31 || t == 32 || t == 33 || t == 34 || t == 35
def rlDie (k : Nat) : Nat := if k = 4 then 10 else if k = 10 then 11 else 99
def rlOwn (k : Nat) : Bool := k == 4 || k == 10 || k == 11
def rlAl (k : Nat) : Bool := k == 0 || k == 2 || k == 5 || k == 7
def rlF (A A2 : Option Addr) (n k m c c2 i d : Nat) (P Y : List UInt8) : Nat → Value → World → Prop
  | 0 => fun v _ => v = .slice A n c
  | 1 => fun v _ => v = .int .i64 (k : Int)
  | 2 => fun v _ => v = .slice A k c
  | 3 => fun v _ => v = .int .i64 (i : Int)
  | 4 => fun v w => OwnHs w v P d
  | 5 => fun v _ => v = .slice A n c
  | 6 => fun v _ => v = .int .i64 (k : Int)
  | 7 => fun v _ => v = .slice A2 m c2
  | 8 => fun v _ => v = (.agg (Y.map bv).toArray)
  | 9 => Hash1 Y
  | 10 => fun v w => OwnHs w v (P ++ Y) (d + 1)
  | 11 => fun v w => OwnHs w v (P ++ Y) (d + 1)
  | _ => fun _ _ => True
theorem rlF_lasts (A A2 : Option Addr) (n k m c c2 i d : Nat) (P Y : List UInt8) : ∀ kq, LastsB rlAl kq (rlF A A2 n k m c c2 i d P Y kq)
  | 0 => LastsB.val _
  | 1 => LastsB.val _
  | 2 => LastsB.val _
  | 3 => LastsB.val _
  | 4 => LastsB.ownH rfl _ _
  | 5 => LastsB.val _
  | 6 => LastsB.val _
  | 7 => LastsB.val _
  | 8 => LastsB.val _
  | 9 => LastsB.hash1 rfl _
  | 10 => LastsB.ownH rfl _ _
  | 11 => LastsB.ownH rfl _ _
  | _ + 12 => fun _ _ _ _ _ _ _ => trivial
def rrS (t : Nat) : Bool := t == 4 || t == 36 || t == 37 || t == 38 || t == 39 || t == 40 || t == 41 || t == 42 || t == 43 || t == 44 || t == 45 || t == 46 || t == 47 || t == 48
def rrDie (k : Nat) : Nat := if k = 6 then 12 else if k = 12 then 13 else 99
def rrOwn (k : Nat) : Bool := k == 6 || k == 12 || k == 13
def rrAl (k : Nat) : Bool := k == 0 || k == 2 || k == 7 || k == 9
def rrF (A A2 : Option Addr) (n k m c c2 i i2 d : Nat) (P Y : List UInt8) : Nat → Value → World → Prop
  | 0 => fun v _ => v = .slice A n c
  | 1 => fun v _ => v = .int .i64 (k : Int)
  | 2 => fun v _ => v = .slice A2 m c2
  | 3 => fun v _ => v = .int .i64 (i : Int)
  | 4 => fun v _ => v = .int .i64 (k : Int)
  | 5 => fun v _ => v = .int .i64 (i2 : Int)
  | 6 => fun v w => OwnHs w v P d
  | 7 => fun v _ => v = .slice A n c
  | 8 => fun v _ => v = .int .i64 (k : Int)
  | 9 => fun v _ => v = .slice A k c
  | 10 => fun v _ => v = (.agg (Y.map bv).toArray)
  | 11 => Hash1 Y
  | 12 => fun v w => OwnHs w v (P ++ Y) (d + 1)
  | 13 => fun v w => OwnHs w v (P ++ Y) (d + 1)
  | _ => fun _ _ => True
theorem rrF_lasts (A A2 : Option Addr) (n k m c c2 i i2 d : Nat) (P Y : List UInt8) : ∀ kq, LastsB rrAl kq (rrF A A2 n k m c c2 i i2 d P Y kq)
  | 0 => LastsB.val _
  | 1 => LastsB.val _
  | 2 => LastsB.val _
  | 3 => LastsB.val _
  | 4 => LastsB.val _
  | 5 => LastsB.val _
  | 6 => LastsB.ownH rfl _ _
  | 7 => LastsB.val _
  | 8 => LastsB.val _
  | 9 => LastsB.val _
  | 10 => LastsB.val _
  | 11 => LastsB.hash1 rfl _
  | 12 => LastsB.ownH rfl _ _
  | 13 => LastsB.ownH rfl _ _
  | _ + 14 => fun _ _ _ _ _ _ _ => trivial

set_option maxRecDepth 100000 in
set_option maxHeartbeats 2000000 in
theorem RPath_any : ∀ (n : Nat) (A : Option Addr) (ps : List Part) (c i : Nat) (w0 : World), ps.length = n → n ≤ c → n ≤ 500 → i ≤ 1000 → (∀ p ∈ ps, p.2.1.length ≤ 1000) → RdP w0 A ps →
    Calls Tryd.prog 27 #[.slice A n c, .int .i64 (i : Int)] w0 fun e w' => PathAt w0 (pathL (leavesOf ps) i).flatten (pathL (leavesOf ps) i).length e w' := by
  intro n
  induction n using Nat.strongRecOn with
  | ind n ih =>
  intro A ps c i w0 hn hc h5 hi hl hr
  have i0 : ¬ (i : Int) < 0 := by omega
  by_cases h0 : n ≤ i
  · have i1 : (n : Int) ≤ (i : Int) := by omega
    rw [pathL_0 (.inr (by rw [leavesOf_len]; omega))]
    go_enter Tryd.func27, Tryd.ntmps27
    go_wp2_with fail
    go_ret
    exact PathAt.nil _ _ (grown_refl _ _)
  have i1 : ¬ (n : Int) ≤ (i : Int) := by omega
  by_cases h1 : n = 1
  · subst h1
    rw [pathL_0 (.inl (by rw [leavesOf_len]; omega))]
    go_enter Tryd.func27, Tryd.ntmps27
    go_wp2_with fail
    go_ret
    exact PathAt.nil _ _ (grown_refl _ _)
  have h2 : 2 ≤ n := by omega
  have n1 : ¬ (n : Int) = 1 := by omega
  have hls := fun w' => half_any n (by omega) (by omega) w'
  have hk1 := halfN_pos n
  have hk2 := halfN_lt h2
  have hlo := fun w' => sl_loP A n c (halfN n) (by omega) w'
  by_cases hik : i < halfN n
  · have hpa := fun w' (hg : w0.grownBy w' none) => ih (halfN n) hk2 A (ps.take (halfN n)) c i w' (by rw [List.length_take]; omega) (by omega) (by omega) hi (fun p hp => hl p (List.mem_of_mem_take hp)) ((hr.take _).kept hg)
    have hro := fun w' (hg : w0.grownBy w' none) => RRoot_any (n - halfN n) (if c = halfN n then A else A.map (·.add (halfN n))) (ps.drop (halfN n)) (c - halfN n) w' (by rw [List.length_drop]; omega) (by omega) (by omega) (fun p hp => hl p (List.mem_of_mem_drop hp)) ((hr.cut (by omega)).kept hg)
    obtain ⟨P, hP⟩ : ∃ P, P = (pathL (leavesOf (ps.take (halfN n))) i).flatten := ⟨_, rfl⟩
    obtain ⟨d, hd0⟩ : ∃ d, d = (pathL (leavesOf (ps.take (halfN n))) i).length := ⟨_, rfl⟩
    obtain ⟨Y, hY⟩ : ∃ Y, Y = rootL (leavesOf (ps.drop (halfN n))) := ⟨_, rfl⟩
    have hYl : Hid (Y.length = 32) := by rw [hY]; exact rootL_len _
    have hd : Hid (d ≤ 1000) := by
      show d ≤ 1000
      have := pathL_le (leavesOf (ps.take (halfN n))) i
      rw [leavesOf_len, List.length_take] at this
      omega
    have HP : Hid ((pathL (leavesOf ps) i).flatten = P ++ Y) := by
      show _ = _
      rw [pathL_l (by rw [leavesOf_len]; omega) (by rw [leavesOf_len, hn]; exact hik), leavesOf_len, hn, ← leavesOf_take, ← leavesOf_drop, List.flatten_append, List.flatten_singleton, ← hP, ← hY]
    have HD : Hid ((pathL (leavesOf ps) i).length = d + 1) := by
      show _ = _
      rw [pathL_l (by rw [leavesOf_len]; omega) (by rw [leavesOf_len, hn]; exact hik), leavesOf_len, hn, ← leavesOf_take, ← leavesOf_drop, List.length_append, List.length_singleton, ← hd0]
    rw [← hP, ← hd0] at hpa
    rw [← hY] at hro
    clear hP hd0 hY ih hr hl
    obtain ⟨A2, hA2⟩ : ∃ A2, A2 = (if c = halfN n then A else A.map (·.add (halfN n))) := ⟨_, rfl⟩
    obtain ⟨m, hm⟩ : ∃ m, m = n - halfN n := ⟨_, rfl⟩
    obtain ⟨c2, hc2⟩ : ∃ c2, c2 = c - halfN n := ⟨_, rfl⟩
    rw [← hA2, ← hm, ← hc2] at hro hlo
    clear hA2 hm hc2
    have hik2 : (i : Int) < (halfN n : Int) := by omega
    generalize halfN n = k at hls hk1 hk2 hpa hlo hik hik2
    have hkc : k ≤ c := by omega
    go_enter Tryd.func27, Tryd.ntmps27
    go_upto_region 5 with (go_at_call 38; refine (hls _).mono ?_; rintro e w5 ⟨rfl, h5w⟩; obtain rfl : w0 = w5 := h5w.symm)
    refine wp_region_gb (al := rlAl) 12 (N := 49) (S := rlS) (die := rlDie) (own := rlOwn) (F := rlF A A2 n k m c c2 i d P Y) (by kernel_rfl) (Nat.le_of_ble_eq_true (by kernel_rfl)) (fun h => absurd (show 12 < 12 from h) (Nat.lt_irrefl _)) (fun h => absurd (show 12 < 12 from h) (Nat.lt_irrefl _)) (by kernel_rfl) (by kernel_rfl) (Nat.le_of_ble_eq_true (by kernel_rfl)) (rlF_lasts A A2 n k m c c2 i d P Y) ?_ ?_
    · intro i o L' a w K hi ho hg hLi hout hpre houter hitem h1 h2 h3
      have hcases : i = 0 ∨ i = 1 ∨ i = 2 ∨ i = 3 ∨ i = 4 ∨ i = 5 ∨ i = 6 ∨ i = 7 ∨ i = 8 ∨ i = 9 ∨ i = 10 ∨ i = 11 := by omega
      rcases hcases with rfl | rfl | rfl | rfl | rfl | rfl | rfl | rfl | rfl | rfl | rfl | rfl
      · cases (show some _ = some o from ho)
        exact ⟨rfl, wp_move rfl (h1 ⟨_, rfl⟩ _ _ (grown_refl _ none) (houter _ rfl) (by rw [houter _ rfl]; exact nobl rfl) (by rw [houter _ rfl]; exact FreshB.none rfl))⟩
      · cases (show some _ = some o from ho)
        exact ⟨rfl, wp_move rfl (h1 ⟨_, rfl⟩ _ _ (grown_refl _ none) (houter _ rfl) (by rw [houter _ rfl]; exact nobl rfl) (by rw [houter _ rfl]; exact FreshB.none rfl))⟩
      · cases (show some _ = some o from ho)
        exact ⟨rfl, wp_slice_hi rfl (hitem 0 (by decide) ⟨hpre 0 rfl, hout _ (by decide)⟩) (hitem 1 (by decide) ⟨hpre 1 rfl, hout _ (by decide)⟩) (sl_hiP A n c k hkc _) (h1 ⟨_, rfl⟩ _ _ (grown_refl _ none) rfl (nobl rfl) (FreshB.none rfl))⟩
      · cases (show some _ = some o from ho)
        exact ⟨rfl, wp_move rfl (h1 ⟨_, rfl⟩ _ _ (grown_refl _ none) (houter _ rfl) (by rw [houter _ rfl]; exact nobl rfl) (by rw [houter _ rfl]; exact FreshB.none rfl))⟩
      · cases (show some _ = some o from ho)
        have x27 : a.eval (.tmp 27) = .slice A k c := hitem 2 (by decide) ⟨hpre 2 rfl, hout _ (by decide)⟩
        have x28 : a.eval (.tmp 28) = .int .i64 (i : Int) := hitem 3 (by decide) ⟨hpre 3 rfl, hout _ (by decide)⟩
        refine ⟨rfl, wp_call rfl Tryd.func27 (by kernel_rfl) (by kernel_rfl) (args := #[.slice A k c, .int .i64 (i : Int)]) (by simp [x27, x28]) ((hpa w hg).mono ?_)⟩
        rintro e w' ⟨v, rfl, hf', hg', hn', ht'⟩
        exact ⟨_, rfl, h1 ⟨_, rfl⟩ _ _ hg' hf' ht' (FreshB.new hn')⟩
      · cases (show some _ = some o from ho)
        exact ⟨rfl, wp_move rfl (h1 ⟨_, rfl⟩ _ _ (grown_refl _ none) (houter _ rfl) (by rw [houter _ rfl]; exact nobl rfl) (by rw [houter _ rfl]; exact FreshB.none rfl))⟩
      · cases (show some _ = some o from ho)
        exact ⟨rfl, wp_move rfl (h1 ⟨_, rfl⟩ _ _ (grown_refl _ none) (houter _ rfl) (by rw [houter _ rfl]; exact nobl rfl) (by rw [houter _ rfl]; exact FreshB.none rfl))⟩
      · cases (show some _ = some o from ho)
        exact ⟨rfl, wp_slice_lo rfl (hitem 5 (by decide) ⟨hpre 5 rfl, hout _ (by decide)⟩) (hitem 6 (by decide) ⟨hpre 6 rfl, hout _ (by decide)⟩) (hlo _) (h1 ⟨_, rfl⟩ _ _ (grown_refl _ none) rfl (nobl rfl) (FreshB.none rfl))⟩
      · cases (show some _ = some o from ho)
        have x32 : a.eval (.tmp 32) = .slice A2 m c2 := hitem 7 (by decide) ⟨hpre 7 rfl, hout _ (by decide)⟩
        refine ⟨rfl, wp_call rfl Tryd.func39 (by kernel_rfl) (by kernel_rfl) (args := #[.slice A2 m c2]) (by simp [x32]) ((hro w hg).mono ?_)⟩
        rintro e w' ⟨rfl, hg'⟩
        exact ⟨_, rfl, h1 ⟨_, rfl⟩ _ _ hg' rfl (nobl (blocks_bytes _)) (FreshB.none (blocks_bytes _))⟩
      · cases (show some _ = some o from ho)
        exact ⟨rfl, wp_lit1 rfl (hitem 8 (by decide) ⟨hpre 8 rfl, hout _ (by decide)⟩) (lit_1h Y hYl.out _) (h1 ⟨_, rfl⟩ _ _ (grown_alloc (grown_refl _ _) _) ⟨_, rfl, rd_row (heap_alloc_new _ _)⟩ (new_lt _ _) (FreshB.new (new_ge _)))⟩
      · cases (show some _ = some o from ho)
        have hu := hitem 4 (by decide) ⟨hpre 4 rfl, hLi⟩
        obtain ⟨b, e1, hb⟩ := hitem 9 (by decide) ⟨hpre 9 rfl, hout _ (by decide)⟩
        exact ⟨rfl, wp_appH rfl rfl hu e1 hb (by rw [hYl.out]) (by omega) (by have := hd.out; omega) fun v w' hv hw => h2 ⟨_, rfl⟩ 4 v w' _ (by decide) ⟨hpre 4 rfl, hLi⟩ rfl rfl hw.1 (ownH_mem hu) hv (ownH_lt hv) (grewH_blocks hu hv hw)⟩
      · cases (show some _ = some o from ho)
        have hu := hitem 10 (by decide) ⟨hpre 10 rfl, hLi⟩
        exact ⟨rfl, wp_assign rfl (h2 ⟨_, rfl⟩ 10 _ _ none (by decide) ⟨hpre 10 rfl, hLi⟩ rfl rfl (grown_refl _ none) (fun g e => by cases e) hu (ownH_lt hu) (fun g e => .inr (.inl e)))⟩
    · intro a wT hgT hend hap ha
      obtain ⟨f, hf⟩ : ∃ f : Nat → Value, f = fun t => a.tmps.getD t undef := ⟨_, rfl⟩
      obtain ⟨v4, s4, ho4, hn4⟩ : ∃ v, f 4 = v ∧ OwnHs wT v (P ++ Y) (d + 1) ∧ ∀ g ∈ blocksOf v, w0.heap.size ≤ g := ⟨_, congrFun hf 4, (hend 11 (by decide) (by decide)).1, (hend 11 (by decide) (by decide)).2 rfl⟩
      rw [← hf] at ha
      clear hend hap
      clear hf
      subst ha
      simp only [fill, rlS, Nat.reduceAdd, Nat.reduceBEq, Bool.or_false, Bool.or_true, cond_true, cond_false, List.drop_succ_cons, List.drop_zero, s4]
      clear s4
      go_wp2_with fail
      go_ret
      rw [HP.out, HD.out]
      exact ⟨v4, rfl, ho4, hgT, hn4, ownH_lt ho4⟩
  · have hpa := fun w' (hg : w0.grownBy w' none) => ih (n - halfN n) (by omega) (if c = halfN n then A else A.map (·.add (halfN n))) (ps.drop (halfN n)) (c - halfN n) (i - halfN n) w' (by rw [List.length_drop]; omega) (by omega) (by omega) (by omega) (fun p hp => hl p (List.mem_of_mem_drop hp)) ((hr.cut (by omega)).kept hg)
    have hro := fun w' (hg : w0.grownBy w' none) => RRoot_any (halfN n) A (ps.take (halfN n)) c w' (by rw [List.length_take]; omega) (by omega) (by omega) (fun p hp => hl p (List.mem_of_mem_take hp)) ((hr.take _).kept hg)
    obtain ⟨P, hP⟩ : ∃ P, P = (pathL (leavesOf (ps.drop (halfN n))) (i - halfN n)).flatten := ⟨_, rfl⟩
    obtain ⟨d, hd0⟩ : ∃ d, d = (pathL (leavesOf (ps.drop (halfN n))) (i - halfN n)).length := ⟨_, rfl⟩
    obtain ⟨Y, hY⟩ : ∃ Y, Y = rootL (leavesOf (ps.take (halfN n))) := ⟨_, rfl⟩
    have hYl : Hid (Y.length = 32) := by rw [hY]; exact rootL_len _
    have hd : Hid (d ≤ 1000) := by
      show d ≤ 1000
      have := pathL_le (leavesOf (ps.drop (halfN n))) (i - halfN n)
      rw [leavesOf_len, List.length_drop] at this
      omega
    have HP : Hid ((pathL (leavesOf ps) i).flatten = P ++ Y) := by
      show _ = _
      rw [pathL_r (by rw [leavesOf_len]; omega) (by rw [leavesOf_len]; omega) (by rw [leavesOf_len, hn]; exact hik), leavesOf_len, hn, ← leavesOf_take, ← leavesOf_drop, List.flatten_append, List.flatten_singleton, ← hP, ← hY]
    have HD : Hid ((pathL (leavesOf ps) i).length = d + 1) := by
      show _ = _
      rw [pathL_r (by rw [leavesOf_len]; omega) (by rw [leavesOf_len]; omega) (by rw [leavesOf_len, hn]; exact hik), leavesOf_len, hn, ← leavesOf_take, ← leavesOf_drop, List.length_append, List.length_singleton, ← hd0]
    rw [← hP, ← hd0] at hpa
    rw [← hY] at hro
    clear hP hd0 hY ih hr hl
    obtain ⟨A2, hA2⟩ : ∃ A2, A2 = (if c = halfN n then A else A.map (·.add (halfN n))) := ⟨_, rfl⟩
    obtain ⟨m, hm⟩ : ∃ m, m = n - halfN n := ⟨_, rfl⟩
    obtain ⟨c2, hc2⟩ : ∃ c2, c2 = c - halfN n := ⟨_, rfl⟩
    have hsub := fun w' => sub_nat i (halfN n) (by omega) (by omega) w'
    obtain ⟨i2, hi2⟩ : ∃ i2, i2 = i - halfN n := ⟨_, rfl⟩
    rw [← hA2, ← hm, ← hc2, ← hi2] at hpa
    rw [← hA2, ← hm, ← hc2] at hlo
    rw [← hi2] at hsub
    clear hi2
    clear hA2 hm hc2
    have hik2 : ¬ (i : Int) < (halfN n : Int) := by omega
    generalize halfN n = k at hls hk1 hk2 hro hsub hlo hik hik2
    have hkc : k ≤ c := by omega
    go_enter Tryd.func27, Tryd.ntmps27
    go_upto_region 6 with (go_at_call 38; refine (hls _).mono ?_; rintro e w5 ⟨rfl, h5w⟩; obtain rfl : w0 = w5 := h5w.symm)
    refine wp_region_gb (al := rrAl) 14 (N := 49) (S := rrS) (die := rrDie) (own := rrOwn) (F := rrF A A2 n k m c c2 i i2 d P Y) (by kernel_rfl) (Nat.le_of_ble_eq_true (by kernel_rfl)) (fun h => absurd (show 14 < 14 from h) (Nat.lt_irrefl _)) (fun h => absurd (show 14 < 14 from h) (Nat.lt_irrefl _)) (by kernel_rfl) (by kernel_rfl) (Nat.le_of_ble_eq_true (by kernel_rfl)) (rrF_lasts A A2 n k m c c2 i i2 d P Y) ?_ ?_
    · intro i o L' a w K hi ho hg hLi hout hpre houter hitem h1 h2 h3
      have hcases : i = 0 ∨ i = 1 ∨ i = 2 ∨ i = 3 ∨ i = 4 ∨ i = 5 ∨ i = 6 ∨ i = 7 ∨ i = 8 ∨ i = 9 ∨ i = 10 ∨ i = 11 ∨ i = 12 ∨ i = 13 := by omega
      rcases hcases with rfl | rfl | rfl | rfl | rfl | rfl | rfl | rfl | rfl | rfl | rfl | rfl | rfl | rfl
      · cases (show some _ = some o from ho)
        exact ⟨rfl, wp_move rfl (h1 ⟨_, rfl⟩ _ _ (grown_refl _ none) (houter _ rfl) (by rw [houter _ rfl]; exact nobl rfl) (by rw [houter _ rfl]; exact FreshB.none rfl))⟩
      · cases (show some _ = some o from ho)
        exact ⟨rfl, wp_move rfl (h1 ⟨_, rfl⟩ _ _ (grown_refl _ none) (houter _ rfl) (by rw [houter _ rfl]; exact nobl rfl) (by rw [houter _ rfl]; exact FreshB.none rfl))⟩
      · cases (show some _ = some o from ho)
        exact ⟨rfl, wp_slice_lo rfl (hitem 0 (by decide) ⟨hpre 0 rfl, hout _ (by decide)⟩) (hitem 1 (by decide) ⟨hpre 1 rfl, hout _ (by decide)⟩) (hlo _) (h1 ⟨_, rfl⟩ _ _ (grown_refl _ none) rfl (nobl rfl) (FreshB.none rfl))⟩
      · cases (show some _ = some o from ho)
        exact ⟨rfl, wp_move rfl (h1 ⟨_, rfl⟩ _ _ (grown_refl _ none) (houter _ rfl) (by rw [houter _ rfl]; exact nobl rfl) (by rw [houter _ rfl]; exact FreshB.none rfl))⟩
      · cases (show some _ = some o from ho)
        exact ⟨rfl, wp_move rfl (h1 ⟨_, rfl⟩ _ _ (grown_refl _ none) (houter _ rfl) (by rw [houter _ rfl]; exact nobl rfl) (by rw [houter _ rfl]; exact FreshB.none rfl))⟩
      · cases (show some _ = some o from ho)
        exact ⟨rfl, wp_bin rfl (hitem 3 (by decide) ⟨hpre 3 rfl, hout _ (by decide)⟩) (hitem 4 (by decide) ⟨hpre 4 rfl, hout _ (by decide)⟩) (guard_subI _ _ _ _ _) (hsub _) (h1 ⟨_, rfl⟩ _ _ (grown_refl _ none) rfl (nobl rfl) (FreshB.none rfl))⟩
      · cases (show some _ = some o from ho)
        have x38 : a.eval (.tmp 38) = .slice A2 m c2 := hitem 2 (by decide) ⟨hpre 2 rfl, hout _ (by decide)⟩
        have x41 : a.eval (.tmp 41) = .int .i64 (i2 : Int) := hitem 5 (by decide) ⟨hpre 5 rfl, hout _ (by decide)⟩
        refine ⟨rfl, wp_call rfl Tryd.func27 (by kernel_rfl) (by kernel_rfl) (args := #[.slice A2 m c2, .int .i64 (i2 : Int)]) (by simp [x38, x41]) ((hpa w hg).mono ?_)⟩
        rintro e w' ⟨v, rfl, hf', hg', hn', ht'⟩
        exact ⟨_, rfl, h1 ⟨_, rfl⟩ _ _ hg' hf' ht' (FreshB.new hn')⟩
      · cases (show some _ = some o from ho)
        exact ⟨rfl, wp_move rfl (h1 ⟨_, rfl⟩ _ _ (grown_refl _ none) (houter _ rfl) (by rw [houter _ rfl]; exact nobl rfl) (by rw [houter _ rfl]; exact FreshB.none rfl))⟩
      · cases (show some _ = some o from ho)
        exact ⟨rfl, wp_move rfl (h1 ⟨_, rfl⟩ _ _ (grown_refl _ none) (houter _ rfl) (by rw [houter _ rfl]; exact nobl rfl) (by rw [houter _ rfl]; exact FreshB.none rfl))⟩
      · cases (show some _ = some o from ho)
        exact ⟨rfl, wp_slice_hi rfl (hitem 7 (by decide) ⟨hpre 7 rfl, hout _ (by decide)⟩) (hitem 8 (by decide) ⟨hpre 8 rfl, hout _ (by decide)⟩) (sl_hiP A n c k hkc _) (h1 ⟨_, rfl⟩ _ _ (grown_refl _ none) rfl (nobl rfl) (FreshB.none rfl))⟩
      · cases (show some _ = some o from ho)
        have x45 : a.eval (.tmp 45) = .slice A k c := hitem 9 (by decide) ⟨hpre 9 rfl, hout _ (by decide)⟩
        refine ⟨rfl, wp_call rfl Tryd.func39 (by kernel_rfl) (by kernel_rfl) (args := #[.slice A k c]) (by simp [x45]) ((hro w hg).mono ?_)⟩
        rintro e w' ⟨rfl, hg'⟩
        exact ⟨_, rfl, h1 ⟨_, rfl⟩ _ _ hg' rfl (nobl (blocks_bytes _)) (FreshB.none (blocks_bytes _))⟩
      · cases (show some _ = some o from ho)
        exact ⟨rfl, wp_lit1 rfl (hitem 10 (by decide) ⟨hpre 10 rfl, hout _ (by decide)⟩) (lit_1h Y hYl.out _) (h1 ⟨_, rfl⟩ _ _ (grown_alloc (grown_refl _ _) _) ⟨_, rfl, rd_row (heap_alloc_new _ _)⟩ (new_lt _ _) (FreshB.new (new_ge _)))⟩
      · cases (show some _ = some o from ho)
        have hu := hitem 6 (by decide) ⟨hpre 6 rfl, hLi⟩
        obtain ⟨b, e1, hb⟩ := hitem 11 (by decide) ⟨hpre 11 rfl, hout _ (by decide)⟩
        exact ⟨rfl, wp_appH rfl rfl hu e1 hb (by rw [hYl.out]) (by omega) (by have := hd.out; omega) fun v w' hv hw => h2 ⟨_, rfl⟩ 6 v w' _ (by decide) ⟨hpre 6 rfl, hLi⟩ rfl rfl hw.1 (ownH_mem hu) hv (ownH_lt hv) (grewH_blocks hu hv hw)⟩
      · cases (show some _ = some o from ho)
        have hu := hitem 12 (by decide) ⟨hpre 12 rfl, hLi⟩
        exact ⟨rfl, wp_assign rfl (h2 ⟨_, rfl⟩ 12 _ _ none (by decide) ⟨hpre 12 rfl, hLi⟩ rfl rfl (grown_refl _ none) (fun g e => by cases e) hu (ownH_lt hu) (fun g e => .inr (.inl e)))⟩
    · intro a wT hgT hend hap ha
      obtain ⟨f, hf⟩ : ∃ f : Nat → Value, f = fun t => a.tmps.getD t undef := ⟨_, rfl⟩
      obtain ⟨v4, s4, ho4, hn4⟩ : ∃ v, f 4 = v ∧ OwnHs wT v (P ++ Y) (d + 1) ∧ ∀ g ∈ blocksOf v, w0.heap.size ≤ g := ⟨_, congrFun hf 4, (hend 13 (by decide) (by decide)).1, (hend 13 (by decide) (by decide)).2 rfl⟩
      rw [← hf] at ha
      clear hend hap
      clear hf
      subst ha
      simp only [fill, rrS, Nat.reduceAdd, Nat.reduceBEq, Bool.or_false, Bool.or_true, cond_true, cond_false, List.drop_succ_cons, List.drop_zero, s4]
      clear s4
      go_wp2_with fail
      go_ret
      rw [HP.out, HD.out]
      exact ⟨v4, rfl, ho4, hgT, hn4, ownH_lt ho4⟩
end Go.Proofs.YtpeepiboocdnaaaDoor
