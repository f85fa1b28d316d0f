/- SHA-256 by natural numbers, brought to their values at each step: the kernel reckons a block in some 30 ms; and that it is the same. -/
import Derived.Test.YtmfnncfiaaeknaaDoorSum
namespace Go.Proofs.YtmfnncfiaaeknaaDoor
open Go.RowKit

def rotN (x n : Nat) : Nat := Nat.lor (Nat.shiftRight x n) (Nat.mod (Nat.shiftLeft x (Nat.sub 32 n)) 4294967296)
def addN (x y : Nat) : Nat := Nat.mod (Nat.add x y) 4294967296
def s0N (x : Nat) : Nat := Nat.xor (Nat.xor (rotN x 7) (rotN x 18)) (Nat.shiftRight x 3)
def s1N (x : Nat) : Nat := Nat.xor (Nat.xor (rotN x 17) (rotN x 19)) (Nat.shiftRight x 10)
/-- Brought to its value before it goes on. -/
def forceN (x : Nat) (K : Nat → List Nat) : List Nat := match x with | 0 => K 0 | n + 1 => K (n + 1)
theorem forceN_eq (x : Nat) (K : Nat → List Nat) : forceN x K = K x := by cases x <;> rfl
def roundsN : List Nat → List Nat → Nat → Nat → Nat → Nat → Nat → Nat → Nat → Nat → List Nat
  | k :: ks, w :: ws, a, b, c, d, e, f, g, h =>
    forceN (addN (addN (addN (addN h (Nat.xor (Nat.xor (rotN e 6) (rotN e 11)) (rotN e 25))) (Nat.xor (Nat.land e f) (Nat.land (Nat.sub 4294967295 e) g))) k) w) fun t =>
    forceN (addN t (addN (Nat.xor (Nat.xor (rotN a 2) (rotN a 13)) (rotN a 22)) (Nat.xor (Nat.xor (Nat.land a b) (Nat.land a c)) (Nat.land b c)))) fun a' =>
    forceN (addN d t) fun e' => roundsN ks ws a' a b c e' e f g
  | _, _, a, b, c, d, e, f, g, h => [a, b, c, d, e, f, g, h]
def schedN : Nat → List Nat → List Nat → List Nat
  | 0, _, out => out.reverse
  | n + 1, last, out =>
    match last with
    | [w0, w1, w2, w3, w4, w5, w6, w7, w8, w9, w10, w11, w12, w13, w14, w15] =>
      forceN (addN (addN (addN w0 (s0N w1)) w9) (s1N w14)) fun x => schedN n [w1, w2, w3, w4, w5, w6, w7, w8, w9, w10, w11, w12, w13, w14, w15, x] (x :: out)
    | _ => []
def keysN : List Nat := keysL.map UInt32.toNat
def wordsN : List Nat → List Nat
  | p :: q :: r :: s :: rest => Nat.lor (Nat.lor (Nat.lor (Nat.shiftLeft p 24) (Nat.shiftLeft q 16)) (Nat.shiftLeft r 8)) s :: wordsN rest
  | _ => []
def blockN (ks ws s : List Nat) : List Nat :=
  match s with
  | [a, b, c, d, e, f, g, h] => match roundsN ks (schedN 48 ws ws.reverse) a b c d e f g h with
    | [a', b', c', d', e', f', g', h'] =>
      forceN (addN a a') fun a => forceN (addN b b') fun b => forceN (addN c c') fun c => forceN (addN d d') fun d => forceN (addN e e') fun e => forceN (addN f f') fun f => forceN (addN g g') fun g => forceN (addN h h') fun h => [a, b, c, d, e, f, g, h]
    | _ => []
  | _ => []
def blocksNN (ks : List Nat) : Nat → List Nat → List Nat → List Nat
  | 0, _, s => s
  | n + 1, m, s => blocksNN ks n (m.drop 64) (blockN ks (wordsN (m.take 64)) s)
def bytesN (x : Nat) : List Nat := [x / 2 ^ 24 % 256, x / 2 ^ 16 % 256, x / 2 ^ 8 % 256, x / 2 ^ 0 % 256]
def padNN (n : Nat) : List Nat := 128 :: (List.replicate (64 * ((n + 8) / 64 + 1) - n - 9) 0 ++ (List.range 8).map fun i => 8 * n / 2 ^ (8 * (7 - i)) % 256)
def startNN : List Nat := start.cells.map UInt32.toNat
def sumN (l : List Nat) : List Nat := (blocksNN keysN ((l.length + 8) / 64 + 1) (l ++ padNN l.length) startNN).flatMap bytesN

/-! ## The same -/
theorem add_toN (x y : UInt32) : (pW x y).toNat = addN x.toNat y.toNat := by rw [pW, UInt32.toNat_add]; rfl
theorem xor_toN (x y : UInt32) : (xW x y).toNat = Nat.xor x.toNat y.toNat := by rw [xW, UInt32.toNat_xor]; rfl
theorem and_toN (x y : UInt32) : (aW x y).toNat = Nat.land x.toNat y.toNat := by rw [aW, UInt32.toNat_and]; rfl
theorem not_toN (x : UInt32) : (nW x).toNat = Nat.sub 4294967295 x.toNat := by rw [nW, UInt32.toNat_not]; rfl
theorem shr_toN (x : UInt32) (n : Nat) (h : n < 32) : (rW x n).toNat = Nat.shiftRight x.toNat n := by
  rw [rW, UInt32.toNat_shiftRight, UInt32.toNat_ofNat', show n % 2 ^ 32 % 32 = n by omega]; rfl
theorem rot_toN (x : UInt32) (n : Nat) (h : 1 ≤ n ∧ n ≤ 31) : (rotr x n).toNat = rotN x.toNat n := by
  have e : (lW x (32 - n)).toNat = Nat.mod (Nat.shiftLeft x.toNat (Nat.sub 32 n)) 4294967296 := by
    rw [lW, UInt32.toNat_shiftLeft, UInt32.toNat_ofNat', show (32 - n) % 2 ^ 32 % 32 = 32 - n by omega]; rfl
  rw [rotr, oW, UInt32.toNat_or, shr_toN x n (by omega), e]; rfl
theorem rot3_toN (x : UInt32) (i j k : Nat) (hi : 1 ≤ i ∧ i ≤ 31) (hj : 1 ≤ j ∧ j ≤ 31) (hk : 1 ≤ k ∧ k ≤ 31) : (rot3 x i j k).toNat = Nat.xor (Nat.xor (rotN x.toNat i) (rotN x.toNat j)) (rotN x.toNat k) := by
  rw [rot3, xor_toN, xor_toN, rot_toN x i hi, rot_toN x j hj, rot_toN x k hk]
theorem s0_toN (x : UInt32) : (ssig0 x).toNat = s0N x.toNat := by
  rw [ssig0, xor_toN, xor_toN, rot_toN x 7 (by omega), rot_toN x 18 (by omega), shr_toN x 3 (by omega)]; rfl
theorem s1_toN (x : UInt32) : (ssig1 x).toNat = s1N x.toNat := by
  rw [ssig1, xor_toN, xor_toN, rot_toN x 17 (by omega), rot_toN x 19 (by omega), shr_toN x 10 (by omega)]; rfl

def goR : List UInt32 → List UInt32 → St → St
  | k :: ks, w :: ws, s => goR ks ws (round k w s)
  | _, _, s => s
theorem goR_rounds (w : List UInt32) (s : St) (hw : w.length = 64) : ∀ n k, k + n = 64 → goR (keysL.drop k) (w.drop k) (rounds w s k) = rounds w s 64
  | 0, k, h => by
    have e : k = 64 := by omega
    subst e
    rw [List.drop_of_length_le (show keysL.length ≤ 64 from Nat.le_refl 64)]
    rfl
  | n + 1, k, h => by
    have h1 : k < keysL.length := show k < 64 by omega
    have h2 : k < w.length := by omega
    rw [List.drop_eq_getElem_cons h1, List.drop_eq_getElem_cons h2, goR]
    have e : round keysL[k] w[k] (rounds w s k) = rounds w s (k + 1) := by rw [rounds, getD_at keysL k 0 h1, getD_at w k 0 h2]
    rw [e]
    exact goR_rounds w s hw n (k + 1) (by omega)
theorem rounds_toN : ∀ (ks ws : List UInt32) (s : St), roundsN (ks.map UInt32.toNat) (ws.map UInt32.toNat) s.a.toNat s.b.toNat s.c.toNat s.d.toNat s.e.toNat s.f.toNat s.g.toNat s.h.toNat = (goR ks ws s).cells.map UInt32.toNat
  | [], _, _ => rfl
  | _ :: _, [], _ => rfl
  | k :: ks, w :: ws, s => by
    rw [goR, ← rounds_toN ks ws (round k w s)]
    have e1 : (tOf k w s).toNat = addN (addN (addN (addN s.h.toNat (Nat.xor (Nat.xor (rotN s.e.toNat 6) (rotN s.e.toNat 11)) (rotN s.e.toNat 25))) (Nat.xor (Nat.land s.e.toNat s.f.toNat) (Nat.land (Nat.sub 4294967295 s.e.toNat) s.g.toNat))) k.toNat) w.toNat := by
      rw [tOf, add_toN, add_toN, add_toN, add_toN, rot3_toN _ _ _ _ (by omega) (by omega) (by omega), xor_toN, and_toN, and_toN, not_toN]
    have e2 : (uOf s).toNat = addN (Nat.xor (Nat.xor (rotN s.a.toNat 2) (rotN s.a.toNat 13)) (rotN s.a.toNat 22)) (Nat.xor (Nat.xor (Nat.land s.a.toNat s.b.toNat) (Nat.land s.a.toNat s.c.toNat)) (Nat.land s.b.toNat s.c.toNat)) := by
      rw [uOf, add_toN, rot3_toN _ _ _ _ (by omega) (by omega) (by omega), majOf, xor_toN, xor_toN, and_toN, and_toN, and_toN]
    simp only [List.map_cons, roundsN, forceN_eq]
    rw [← e1, ← e2, ← add_toN, ← add_toN]
    rfl
theorem sched_toN (b : List UInt8) : ∀ n m, schedN n (((sched b m).drop m).map UInt32.toNat) ((sched b m).map UInt32.toNat).reverse = (sched b (m + n)).map UInt32.toNat
  | 0, m => by rw [schedN, List.reverse_reverse, Nat.add_zero]
  | n + 1, m => by
    have hl := sched_len b m
    have hd : ((sched b m).drop m).length = 16 := by rw [List.length_drop, hl]; omega
    have ih := sched_toN b n (m + 1)
    have hs : sched b (m + 1) = sched b m ++ [nextW (sched b m)] := rfl
    have hg : ∀ i, i < 16 → (sched b m).getD (m + i) 0 = ((sched b m).drop m).getD i 0 := fun i hi => by
      rw [getD_at _ _ _ (by omega), getD_at _ _ _ (by omega), List.getElem_drop]
    have hn : nextW (sched b m) = pW (pW (pW (((sched b m).drop m).getD 0 0) (ssig0 (((sched b m).drop m).getD 1 0))) (((sched b m).drop m).getD 9 0)) (ssig1 (((sched b m).drop m).getD 14 0)) := by
      unfold nextW
      rw [hl, show 16 + m - 16 = m + 0 by omega, show 16 + m - 15 = m + 1 by omega, show 16 + m - 7 = m + 9 by omega, show 16 + m - 2 = m + 14 by omega, hg 0 (by omega), hg 1 (by omega), hg 9 (by omega), hg 14 (by omega)]
    have hdr : (sched b (m + 1)).drop (m + 1) = ((sched b m).drop m).tail ++ [nextW (sched b m)] := by
      rw [hs, List.drop_append_of_le_length (by omega), List.tail_drop]
    rw [hdr, hs] at ih
    rw [show m + (n + 1) = m + 1 + n by omega, ← ih]
    generalize (sched b m).drop m = D at hd hn
    match D, hd with
    | [w0, w1, w2, w3, w4, w5, w6, w7, w8, w9, w10, w11, w12, w13, w14, w15], _ =>
      have hx : (nextW (sched b m)).toNat = addN (addN (addN w0.toNat (s0N w1.toNat)) w9.toNat) (s1N w14.toNat) := by
        rw [hn]
        show (pW (pW (pW w0 (ssig0 w1)) w9) (ssig1 w14)).toNat = _
        rw [add_toN, add_toN, add_toN, s0_toN, s1_toN]
      simp only [List.map_cons, List.map_nil, schedN, forceN_eq, List.tail_cons, List.cons_append, List.nil_append, List.map_append, List.reverse_append, List.reverse_cons, List.reverse_nil]
      rw [← hx]

def wordsU : List UInt8 → List UInt32
  | p :: q :: r :: s :: rest => wordOf p q r s :: wordsU rest
  | _ => []
theorem word_toN (p q r s : UInt8) : (wordOf p q r s).toNat = Nat.lor (Nat.lor (Nat.lor (Nat.shiftLeft p.toNat 24) (Nat.shiftLeft q.toNat 16)) (Nat.shiftLeft r.toNat 8)) s.toNat := by
  have hb : ∀ x : UInt8, (bW x).toNat = x.toNat := fun _ => rfl
  have hl : ∀ (x : UInt8) (n : Nat), n ≤ 24 → (lW (bW x) n).toNat = Nat.shiftLeft x.toNat n := by
    intro x n hn
    rw [lW, UInt32.toNat_shiftLeft, UInt32.toNat_ofNat', hb, show n % 2 ^ 32 % 32 = n by omega]
    have h1 : x.toNat < 256 := x.toNat_lt
    have h2 : x.toNat <<< n < 2 ^ 32 := by
      rw [Nat.shiftLeft_eq]
      have : 2 ^ n ≤ 2 ^ 24 := Nat.pow_le_pow_right (by decide) hn
      calc x.toNat * 2 ^ n ≤ 255 * 2 ^ 24 := Nat.mul_le_mul (by omega) this
        _ < 2 ^ 32 := by decide
    exact Nat.mod_eq_of_lt h2
  rw [wordOf, oW, UInt32.toNat_or, oW, UInt32.toNat_or, oW, UInt32.toNat_or, hl p 24 (by omega), hl q 16 (by omega), hl r 8 (by omega), hb]
  rfl
theorem wordsU_toN : ∀ l : List UInt8, (wordsU l).map UInt32.toNat = wordsN (l.map UInt8.toNat)
  | [] => rfl
  | [_] => rfl
  | [_, _] => rfl
  | [_, _, _] => rfl
  | p :: q :: r :: s :: rest => by
    simp only [wordsU, List.map_cons, wordsN, word_toN, wordsU_toN rest]
theorem wordsU_len : ∀ l : List UInt8, (wordsU l).length = l.length / 4
  | [] => rfl
  | [_] => by simp [wordsU]
  | [_, _] => by simp [wordsU]
  | [_, _, _] => by simp [wordsU]
  | p :: q :: r :: s :: rest => by
    simp only [wordsU, List.length_cons, wordsU_len rest]; omega
theorem wordsU_get : ∀ (i : Nat) (l : List UInt8), 4 * i + 3 < l.length → (wordsU l)[i]? = some (wordAt l i)
  | 0, p :: q :: r :: s :: rest, _ => rfl
  | i + 1, p :: q :: r :: s :: rest, h => by
    have e : wordAt (p :: q :: r :: s :: rest) (i + 1) = wordAt rest i := by
      unfold wordAt
      rw [show 4 * (i + 1) = 4 * i + 4 by omega, show 4 * i + 4 + 1 = 4 * i + 1 + 4 by omega, show 4 * i + 4 + 2 = 4 * i + 2 + 4 by omega, show 4 * i + 4 + 3 = 4 * i + 3 + 4 by omega]
      rfl
    rw [wordsU, List.getElem?_cons_succ, e]
    exact wordsU_get i rest (by simp only [List.length_cons] at h; omega)
  | i, [], h => by simp only [List.length_nil] at h; omega
  | i, [_], h => by simp only [List.length_cons, List.length_nil] at h; omega
  | i, [_, _], h => by simp only [List.length_cons, List.length_nil] at h; omega
  | i, [_, _, _], h => by simp only [List.length_cons, List.length_nil] at h; omega
theorem words16_get (b : List UInt8) : ∀ n i, i < n → (words16 b n)[i]? = some (wordAt b i)
  | 0, _, h => absurd h (by omega)
  | n + 1, i, h => by
    by_cases hi : i < n
    · rw [words16, List.getElem?_append_left (by rw [words16_len]; exact hi)]
      exact words16_get b n i hi
    · have e : i = n := by omega
      subst e
      rw [words16, List.getElem?_append_right (by rw [words16_len]; exact Nat.le_refl _), words16_len, Nat.sub_self]
      rfl
theorem words16_eq (b : List UInt8) (h : b.length = 64) : words16 b 16 = wordsU b := by
  apply List.ext_getElem?
  intro i
  by_cases hi : i < 16
  · rw [words16_get b 16 i hi, wordsU_get i b (by omega)]
  · rw [List.getElem?_eq_none (by rw [words16_len]; omega), List.getElem?_eq_none (by rw [wordsU_len]; omega)]
theorem stir_toN (s : St) (b : List UInt8) (h : b.length = 64) : (stir s b).cells.map UInt32.toNat = blockN keysN (wordsN (b.map UInt8.toNat)) (s.cells.map UInt32.toNat) := by
  have h1 := sched_toN b 48 0
  rw [Nat.zero_add, List.drop_zero] at h1
  have h0 : (sched b 0).map UInt32.toNat = wordsN (b.map UInt8.toNat) := by
    show (words16 b 16).map UInt32.toNat = _
    rw [words16_eq b h, wordsU_toN]
  rw [h0] at h1
  have hr := rounds_toN keysL (sched b 48) s
  have hg := goR_rounds (sched b 48) s (sched_len b 48) 64 0 rfl
  rw [List.drop_zero, List.drop_zero] at hg
  have hg' : goR keysL (sched b 48) s = rounds (sched b 48) s 64 := hg
  rw [hg', ← h1] at hr
  have hst : stir s b = s.add (rounds (sched b 48) s 64) := rfl
  rw [hst]
  generalize rounds (sched b 48) s 64 = R at hr
  simp only [St.cells, List.map_cons, List.map_nil] at hr ⊢
  rw [blockN]
  show _ = (match roundsN (keysL.map UInt32.toNat) (schedN 48 (wordsN (b.map UInt8.toNat)) (wordsN (b.map UInt8.toNat)).reverse) s.a.toNat s.b.toNat s.c.toNat s.d.toNat s.e.toNat s.f.toNat s.g.toNat s.h.toNat with | [a', b', c', d', e', f', g', h'] => forceN (addN s.a.toNat a') fun a => forceN (addN s.b.toNat b') fun b => forceN (addN s.c.toNat c') fun c => forceN (addN s.d.toNat d') fun d => forceN (addN s.e.toNat e') fun e => forceN (addN s.f.toNat f') fun f => forceN (addN s.g.toNat g') fun g => forceN (addN s.h.toNat h') fun h => [a, b, c, d, e, f, g, h] | _ => [])
  rw [hr]
  simp only [forceN_eq, St.add, add_toN]
theorem stirs_shift (s : St) (l : List UInt8) : ∀ n, stirs s l (n + 1) = stirs (stir s (l.take 64)) (l.drop 64) n
  | 0 => by rw [stirs, stirs, stirs]; simp
  | n + 1 => by
    rw [stirs, stirs_shift s l n, stirs, List.drop_drop, show 64 + 64 * n = 64 * (n + 1) by omega]
theorem stirs_toN : ∀ (n : Nat) (l : List UInt8) (s : St), 64 * n ≤ l.length → (stirs s l n).cells.map UInt32.toNat = blocksNN keysN n (l.map UInt8.toNat) (s.cells.map UInt32.toNat)
  | 0, _, _, _ => rfl
  | n + 1, l, s, h => by
    rw [stirs_shift, stirs_toN n (l.drop 64) (stir s (l.take 64)) (by rw [List.length_drop]; omega), stir_toN s (l.take 64) (by rw [List.length_take]; omega), blocksNN, List.map_drop, List.map_take]
theorem bytes_toN (x : UInt32) : (bytesW x).map UInt8.toNat = bytesN x.toNat := by
  simp only [bytesW, bytesN, List.map_cons, List.map_nil, UInt8.toNat_ofNat']
theorem pad_toN (n : Nat) : (padL n).map UInt8.toNat = padNN n := by
  unfold padL padNN lenB
  simp only [List.map_cons, List.map_append, List.map_replicate, List.map_map]
  congr 1
theorem sumN_toN (l : List UInt8) : (sumL l).map UInt8.toNat = sumN (l.map UInt8.toNat) := by
  unfold sumL sumN outB
  have h := stirs_toN ((l.length + 8) / 64 + 1) (l ++ padL l.length) start (by rw [List.length_append, padL_len]; unfold blocksN; omega)
  rw [List.map_append, pad_toN] at h
  rw [List.length_map]
  show _ = (blocksNN keysN ((l.length + 8) / 64 + 1) (l.map UInt8.toNat ++ padNN l.length) (start.cells.map UInt32.toNat)).flatMap bytesN
  rw [← h, List.map_flatMap, List.flatMap_map]
  simp only [bytes_toN]
/-- A sum, reckoned. -/
theorem sumL_eq (l : List UInt8) : sumL l = (sumN (l.map UInt8.toNat)).map UInt8.ofNat := by
  rw [← sumN_toN, List.map_map]
  have e : (UInt8.ofNat ∘ UInt8.toNat) = id := by funext x; simp
  rw [e, List.map_id]
end Go.Proofs.YtmfnncfiaaeknaaDoor
