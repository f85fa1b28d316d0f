/- Merkle trees as plain functions: roots, paths, depths, what a path leads up to. -/
import Derived.Test.YtmfnncfiaaeknaaDoorTag
namespace Go.Proofs.YtmfnncfiaaeknaaDoor

theorem tagT_len (t : UInt8) (l : List UInt8) : (tagL t l).length = 32 := sumL_len _
/-- The greatest power of two below n (n at least 2). -/
def halfN (n : Nat) : Nat := 2 ^ Nat.log2 (n - 1)
theorem halfN_pos (n : Nat) : 1 ≤ halfN n := Nat.one_le_two_pow
theorem halfN_lt {n : Nat} (h : 2 ≤ n) : halfN n < n := by
  have := Nat.log2_self_le (n := n - 1) (by omega)
  unfold halfN; omega
theorem halfN_ge {n : Nat} (h : 2 ≤ n) : n ≤ 2 * halfN n := by
  have := Nat.lt_log2_self (n := n - 1)
  unfold halfN; rw [Nat.pow_succ] at this; omega
theorem halfN_eq {n m : Nat} (h1 : 2 ^ m < n) (h2 : n ≤ 2 * 2 ^ m) : halfN n = 2 ^ m := by
  have h0 := Nat.one_le_two_pow (n := m)
  have e : Nat.log2 (n - 1) = m := (Nat.log2_eq_iff (by omega)).2 ⟨by omega, by rw [Nat.pow_succ]; omega⟩
  unfold halfN
  rw [e]

def rootL (l : List (List UInt8)) : List UInt8 :=
  if _h : 2 ≤ l.length then tagL 1 (rootL (l.take (halfN l.length)) ++ rootL (l.drop (halfN l.length)))
  else if l = [] then tagL 2 [] else tagL 0 l.flatten
termination_by l.length
decreasing_by
  · have := halfN_lt _h; rw [List.length_take]; omega
  · have := halfN_pos l.length; rw [List.length_drop]; omega
theorem rootL_0 : rootL [] = tagL 2 [] := by rw [rootL]; simp
theorem rootL_1 (x : List UInt8) : rootL [x] = tagL 0 x := by rw [rootL]; simp
theorem rootL_2 {l : List (List UInt8)} (h : 2 ≤ l.length) : rootL l = tagL 1 (rootL (l.take (halfN l.length)) ++ rootL (l.drop (halfN l.length))) := by
  rw [rootL, dif_pos h]
theorem rootL_len (l : List (List UInt8)) : (rootL l).length = 32 := by
  rw [rootL]; split
  · exact tagT_len _ _
  · split <;> exact tagT_len _ _

def pathL (l : List (List UInt8)) (i : Nat) : List (List UInt8) :=
  if _h : 2 ≤ l.length ∧ i < l.length then
    if i < halfN l.length then pathL (l.take (halfN l.length)) i ++ [rootL (l.drop (halfN l.length))]
    else pathL (l.drop (halfN l.length)) (i - halfN l.length) ++ [rootL (l.take (halfN l.length))]
  else []
termination_by l.length
decreasing_by
  · have := halfN_lt _h.1; rw [List.length_take]; omega
  · have := halfN_pos l.length; rw [List.length_drop]; omega
theorem pathL_0 {l : List (List UInt8)} {i : Nat} (h : l.length ≤ 1 ∨ l.length ≤ i) : pathL l i = [] := by
  rw [pathL, dif_neg (by omega)]
theorem pathL_l {l : List (List UInt8)} {i : Nat} (h : 2 ≤ l.length) (hk : i < halfN l.length) : pathL l i = pathL (l.take (halfN l.length)) i ++ [rootL (l.drop (halfN l.length))] := by
  have := halfN_lt h
  rw [pathL, dif_pos (by omega), if_pos hk]
theorem pathL_r {l : List (List UInt8)} {i : Nat} (h : 2 ≤ l.length) (hi : i < l.length) (hk : ¬ i < halfN l.length) : pathL l i = pathL (l.drop (halfN l.length)) (i - halfN l.length) ++ [rootL (l.take (halfN l.length))] := by
  rw [pathL, dif_pos (by omega), if_neg hk]
theorem pathL_32 (l : List (List UInt8)) (i : Nat) : ∀ x ∈ pathL l i, x.length = 32 := by
  induction l, i using pathL.induct with
  | case1 l i h hk ih => rw [pathL_l h.1 hk]; intro x hx; rcases List.mem_append.1 hx with hx | hx
                         · exact ih x hx
                         · simp only [List.mem_singleton] at hx; subst hx; exact rootL_len _
  | case2 l i h hk ih => rw [pathL_r h.1 h.2 hk]; intro x hx; rcases List.mem_append.1 hx with hx | hx
                         · exact ih x hx
                         · simp only [List.mem_singleton] at hx; subst hx; exact rootL_len _
  | case3 l i h => rw [pathL_0 (by omega)]; simp

/-- How many hashes the path of leaf i of n has. -/
def depthN (i n : Nat) : Nat :=
  if h : 2 ≤ n then 1 + (if i < halfN n then depthN i (halfN n) else depthN (i - halfN n) (n - halfN n)) else 0
termination_by n
decreasing_by
  · exact halfN_lt h
  · have := halfN_pos n; omega
theorem depthN_1 {i n : Nat} (h : n ≤ 1) : depthN i n = 0 := by rw [depthN, dif_neg (by omega)]
theorem depthN_l {i n : Nat} (h : 2 ≤ n) (hk : i < halfN n) : depthN i n = 1 + depthN i (halfN n) := by rw [depthN, dif_pos h, if_pos hk]
theorem depthN_r {i n : Nat} (h : 2 ≤ n) (hk : ¬ i < halfN n) : depthN i n = 1 + depthN (i - halfN n) (n - halfN n) := by rw [depthN, dif_pos h, if_neg hk]
theorem depthN_pos {i n : Nat} (h : 2 ≤ n) : 1 ≤ depthN i n := by rw [depthN, dif_pos h]; omega
theorem pathL_len (l : List (List UInt8)) (i : Nat) (hi : i < l.length) : (pathL l i).length = depthN i l.length := by
  induction l, i using pathL.induct with
  | case1 l i h hk ih =>
    have h1 := halfN_lt h.1
    have e : (l.take (halfN l.length)).length = halfN l.length := by rw [List.length_take]; omega
    rw [pathL_l h.1 hk, depthN_l h.1 hk, List.length_append, ih (by omega), e, List.length_singleton]; omega
  | case2 l i h hk ih =>
    have h1 := halfN_lt h.1
    have e : (l.drop (halfN l.length)).length = l.length - halfN l.length := List.length_drop
    rw [pathL_r h.1 h.2 hk, depthN_r h.1 hk, List.length_append, ih (by omega), e, List.length_singleton]; omega
  | case3 l i h => rw [pathL_0 (by omega), depthN_1 (by omega)]; rfl
theorem depthN_lt (n : Nat) : ∀ i, depthN i n ≤ n := by
  induction n using Nat.strongRecOn with
  | ind n ih =>
    intro i
    by_cases h : 2 ≤ n
    · have h1 := halfN_lt h
      have h2 := halfN_pos n
      by_cases hk : i < halfN n
      · rw [depthN_l h hk]; have := ih _ h1 i; omega
      · rw [depthN_r h hk]; have := ih (n - halfN n) (by omega) (i - halfN n); omega
    · rw [depthN_1 (by omega)]; omega
/-- At most so many as it takes of doublings to reach n. -/
theorem depthN_le : ∀ m n i, n ≤ 2 ^ m → depthN i n ≤ m
  | m, n, i, hm => by
    induction m generalizing n i with
    | zero => rw [depthN_1 (by simpa using hm)]; exact Nat.le_refl _
    | succ m ih =>
      by_cases h : 2 ≤ n
      · have h1 := halfN_lt h
        have h2 := halfN_ge h
        have h3 : halfN n ≤ 2 ^ m := by
          unfold halfN
          refine Nat.pow_le_pow_right (by decide) ?_
          have : 2 ^ Nat.log2 (n - 1) < 2 ^ (m + 1) := Nat.lt_of_lt_of_le (show halfN n < n from h1) hm
          have := (Nat.pow_lt_pow_iff_right (by decide : 1 < 2)).1 this
          omega
        rw [Nat.pow_succ] at hm
        by_cases hk : i < halfN n
        · rw [depthN_l h hk]; have := ih (halfN n) i h3; omega
        · rw [depthN_r h hk]; have := ih (n - halfN n) (i - halfN n) (by omega); omega
      · rw [depthN_1 (by omega)]; omega
theorem depthN_zero : ∀ m n, 2 ^ m < 2 * n → n ≤ 2 ^ m → depthN 0 n = m
  | m, n, h1, h2 => by
    induction m generalizing n with
    | zero => exact depthN_1 (by simpa using h2)
    | succ m ih =>
      rw [Nat.pow_succ] at h1 h2
      have h0 := Nat.one_le_two_pow (n := m)
      have e : halfN n = 2 ^ m := halfN_eq (by omega) (by omega)
      rw [depthN_l (by omega) (by have := halfN_pos n; omega), e, ih (2 ^ m) (by omega) (Nat.le_refl _)]; omega

/-- The root that a leaf and a path lead up to; P: the path's hashes, one behind the other, d of them. -/
def upL (x : List UInt8) (i n : Nat) (P : List UInt8) (d : Nat) : List UInt8 :=
  match d with
  | 0 => tagL 0 x
  | d + 1 =>
    if i < halfN n then tagL 1 (upL x i (halfN n) P d ++ (P.drop (d * 32)).take 32)
    else tagL 1 ((P.drop (d * 32)).take 32 ++ upL x (i - halfN n) (n - halfN n) P d)
theorem upL_len (x : List UInt8) (i n : Nat) (P : List UInt8) (d : Nat) : (upL x i n P d).length = 32 := by
  cases d with
  | zero => exact tagT_len _ _
  | succ d => unfold upL; split <;> exact tagT_len _ _
theorem upL_take (x : List UInt8) (P : List UInt8) : ∀ d i n m, d * 32 ≤ m → upL x i n (P.take m) d = upL x i n P d
  | 0, _, _, _, _ => rfl
  | d + 1, i, n, m, h => by
    have e : ((P.take m).drop (d * 32)).take 32 = (P.drop (d * 32)).take 32 := by
      rw [List.drop_take, List.take_take, Nat.min_eq_left (by omega)]
    unfold upL
    rw [upL_take x P d i (halfN n) m (by omega), upL_take x P d (i - halfN n) (n - halfN n) m (by omega), e]
theorem upL_app (x : List UInt8) (P R : List UInt8) (d i n : Nat) (h : d * 32 ≤ P.length) : upL x i n (P ++ R) d = upL x i n P d := by
  have := upL_take x (P ++ R) d i n P.length h
  rw [List.take_left] at this
  exact this.symm
theorem flat_len (L : List (List UInt8)) (h : ∀ x ∈ L, x.length = 32) : L.flatten.length = L.length * 32 := by
  induction L with
  | nil => rfl
  | cons a L ih =>
    rw [List.flatten_cons, List.length_append, ih (fun x hx => h x (List.mem_cons_of_mem _ hx)), h a (List.mem_cons_self ..), List.length_cons]; omega
/-- P4.3: a leaf's path leads up to the root. -/
theorem upL_path (l : List (List UInt8)) (i : Nat) : ∀ (n : Nat) (x : List UInt8), l.length = n → l[i]? = some x → upL x i n (pathL l i).flatten (depthN i n) = rootL l := by
  induction l, i using pathL.induct with
  | case1 l i h hk ih =>
    intro n x hn hx
    subst hn
    have h1 := halfN_lt h.1
    have e : (l.take (halfN l.length)).length = halfN l.length := by rw [List.length_take]; omega
    have hf : (pathL (l.take (halfN l.length)) i).flatten.length = depthN i (halfN l.length) * 32 := by
      rw [flat_len _ (pathL_32 _ _), pathL_len _ _ (by omega), e]
    rw [depthN_l h.1 hk, pathL_l h.1 hk, Nat.add_comm, upL, if_pos hk, List.flatten_append, List.flatten_singleton, upL_app _ _ _ _ _ _ (by omega), ← hf, List.drop_left, List.take_of_length_le (Nat.le_of_eq (rootL_len _)), rootL_2 h.1, ih _ x e (by rw [List.getElem?_take_of_lt hk]; exact hx)]
  | case2 l i h hk ih =>
    intro n x hn hx
    subst hn
    have h1 := halfN_lt h.1
    have e : (l.drop (halfN l.length)).length = l.length - halfN l.length := List.length_drop
    have hf : (pathL (l.drop (halfN l.length)) (i - halfN l.length)).flatten.length = depthN (i - halfN l.length) (l.length - halfN l.length) * 32 := by
      rw [flat_len _ (pathL_32 _ _), pathL_len _ _ (by omega), e]
    rw [depthN_r h.1 hk, pathL_r h.1 h.2 hk, Nat.add_comm, upL, if_neg hk, List.flatten_append, List.flatten_singleton, upL_app _ _ _ _ _ _ (by omega), ← hf, List.drop_left, List.take_of_length_le (Nat.le_of_eq (rootL_len _)), rootL_2 h.1, ih _ x e (by rw [List.getElem?_drop, show halfN l.length + (i - halfN l.length) = i by omega]; exact hx)]
  | case3 l i h =>
    intro n x hn hx
    obtain ⟨hi, rfl⟩ := List.getElem?_eq_some_iff.1 hx
    subst hn
    rw [depthN_1 (by omega), upL]
    obtain ⟨a, rfl⟩ := List.length_eq_one_iff.1 (show l.length = 1 by omega)
    have : i = 0 := by simp at hi; exact hi
    subst this
    exact (rootL_1 a).symm
end Go.Proofs.YtmfnncfiaaeknaaDoor
