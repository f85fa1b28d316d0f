/- SHA-256 by natural numbers, brought to their values at each step: the kernel reckons a block in some 30 ms; and that it is the same. One-time signatures as plain functions of lists; a signature is verified; chapter 3's run of another message, reckoned. No memory, no project. -/
import Derived.Test.YtpeepiboocdnaaaDoorKB
namespace Go.Proofs.YtpeepiboocdnaaaDoor
open Go.RowKit

def rotN (x n : Nat) : Nat := Nat.lor (Nat.shiftRight x n) (Nat.mod (Nat.shiftLeft x (Nat.sub 32 n)) 4294967296)
def addN (x y : Nat) : Nat := Nat.mod (Nat.add x y) 4294967296
def s0N (x : Nat) : Nat := Nat.xor (Nat.xor (rotN x 7) (rotN x 18)) (Nat.shiftRight x 3)
def s1N (x : Nat) : Nat := Nat.xor (Nat.xor (rotN x 17) (rotN x 19)) (Nat.shiftRight x 10)
/-- Brought to its value before it goes on. -/
def forceN (x : Nat) (K : Nat → List Nat) : List Nat := match x with | 0 => K 0 | n + 1 => K (n + 1)
theorem forceN_eq (x : Nat) (K : Nat → List Nat) : forceN x K = K x := by cases x <;> rfl
def roundsN : List Nat → List Nat → Nat → Nat → Nat → Nat → Nat → Nat → Nat → Nat → List Nat
  | k :: ks, w :: ws, a, b, c, d, e, f, g, h =>
    forceN (addN (addN (addN (addN h (Nat.xor (Nat.xor (rotN e 6) (rotN e 11)) (rotN e 25))) (Nat.xor (Nat.land e f) (Nat.land (Nat.sub 4294967295 e) g))) k) w) fun t =>
    forceN (addN t (addN (Nat.xor (Nat.xor (rotN a 2) (rotN a 13)) (rotN a 22)) (Nat.xor (Nat.xor (Nat.land a b) (Nat.land a c)) (Nat.land b c)))) fun a' =>
    forceN (addN d t) fun e' => roundsN ks ws a' a b c e' e f g
  | _, _, a, b, c, d, e, f, g, h => [a, b, c, d, e, f, g, h]
def schedN : Nat → List Nat → List Nat → List Nat
  | 0, _, out => out.reverse
  | n + 1, last, out =>
    match last with
    | [w0, w1, w2, w3, w4, w5, w6, w7, w8, w9, w10, w11, w12, w13, w14, w15] =>
      forceN (addN (addN (addN w0 (s0N w1)) w9) (s1N w14)) fun x => schedN n [w1, w2, w3, w4, w5, w6, w7, w8, w9, w10, w11, w12, w13, w14, w15, x] (x :: out)
    | _ => []
def keysN : List Nat := keysL.map UInt32.toNat
def wordsN : List Nat → List Nat
  | p :: q :: r :: s :: rest => Nat.lor (Nat.lor (Nat.lor (Nat.shiftLeft p 24) (Nat.shiftLeft q 16)) (Nat.shiftLeft r 8)) s :: wordsN rest
  | _ => []
def blockN (ks ws s : List Nat) : List Nat :=
  match s with
  | [a, b, c, d, e, f, g, h] => match roundsN ks (schedN 48 ws ws.reverse) a b c d e f g h with
    | [a', b', c', d', e', f', g', h'] =>
      forceN (addN a a') fun a => forceN (addN b b') fun b => forceN (addN c c') fun c => forceN (addN d d') fun d => forceN (addN e e') fun e => forceN (addN f f') fun f => forceN (addN g g') fun g => forceN (addN h h') fun h => [a, b, c, d, e, f, g, h]
    | _ => []
  | _ => []
def blocksNN (ks : List Nat) : Nat → List Nat → List Nat → List Nat
  | 0, _, s => s
  | n + 1, m, s => blocksNN ks n (m.drop 64) (blockN ks (wordsN (m.take 64)) s)
def bytesN (x : Nat) : List Nat := [x / 2 ^ 24 % 256, x / 2 ^ 16 % 256, x / 2 ^ 8 % 256, x / 2 ^ 0 % 256]
def padNN (n : Nat) : List Nat := 128 :: (List.replicate (64 * ((n + 8) / 64 + 1) - n - 9) 0 ++ (List.range 8).map fun i => 8 * n / 2 ^ (8 * (7 - i)) % 256)
def startNN : List Nat := start.cells.map UInt32.toNat
def sumN (l : List Nat) : List Nat := (blocksNN keysN ((l.length + 8) / 64 + 1) (l ++ padNN l.length) startNN).flatMap bytesN

/-! ## The same -/
theorem add_toN (x y : UInt32) : (pW x y).toNat = addN x.toNat y.toNat := by rw [pW, UInt32.toNat_add]; rfl
theorem xor_toN (x y : UInt32) : (xW x y).toNat = Nat.xor x.toNat y.toNat := by rw [xW, UInt32.toNat_xor]; rfl
theorem and_toN (x y : UInt32) : (aW x y).toNat = Nat.land x.toNat y.toNat := by rw [aW, UInt32.toNat_and]; rfl
theorem not_toN (x : UInt32) : (nW x).toNat = Nat.sub 4294967295 x.toNat := by rw [nW, UInt32.toNat_not]; rfl
theorem shr_toN (x : UInt32) (n : Nat) (h : n < 32) : (rW x n).toNat = Nat.shiftRight x.toNat n := by
  rw [rW, UInt32.toNat_shiftRight, UInt32.toNat_ofNat', show n % 2 ^ 32 % 32 = n by omega]; rfl
theorem rot_toN (x : UInt32) (n : Nat) (h : 1 ≤ n ∧ n ≤ 31) : (rotr x n).toNat = rotN x.toNat n := by
  have e : (lW x (32 - n)).toNat = Nat.mod (Nat.shiftLeft x.toNat (Nat.sub 32 n)) 4294967296 := by
    rw [lW, UInt32.toNat_shiftLeft, UInt32.toNat_ofNat', show (32 - n) % 2 ^ 32 % 32 = 32 - n by omega]; rfl
  rw [rotr, oW, UInt32.toNat_or, shr_toN x n (by omega), e]; rfl
theorem rot3_toN (x : UInt32) (i j k : Nat) (hi : 1 ≤ i ∧ i ≤ 31) (hj : 1 ≤ j ∧ j ≤ 31) (hk : 1 ≤ k ∧ k ≤ 31) : (rot3 x i j k).toNat = Nat.xor (Nat.xor (rotN x.toNat i) (rotN x.toNat j)) (rotN x.toNat k) := by
  rw [rot3, xor_toN, xor_toN, rot_toN x i hi, rot_toN x j hj, rot_toN x k hk]
theorem s0_toN (x : UInt32) : (ssig0 x).toNat = s0N x.toNat := by
  rw [ssig0, xor_toN, xor_toN, rot_toN x 7 (by omega), rot_toN x 18 (by omega), shr_toN x 3 (by omega)]; rfl
theorem s1_toN (x : UInt32) : (ssig1 x).toNat = s1N x.toNat := by
  rw [ssig1, xor_toN, xor_toN, rot_toN x 17 (by omega), rot_toN x 19 (by omega), shr_toN x 10 (by omega)]; rfl

def goR : List UInt32 → List UInt32 → St → St
  | k :: ks, w :: ws, s => goR ks ws (round k w s)
  | _, _, s => s
theorem goR_rounds (w : List UInt32) (s : St) (hw : w.length = 64) : ∀ n k, k + n = 64 → goR (keysL.drop k) (w.drop k) (rounds w s k) = rounds w s 64
  | 0, k, h => by
    have e : k = 64 := by omega
    subst e
    rw [List.drop_of_length_le (show keysL.length ≤ 64 from Nat.le_refl 64)]
    rfl
  | n + 1, k, h => by
    have h1 : k < keysL.length := show k < 64 by omega
    have h2 : k < w.length := by omega
    rw [List.drop_eq_getElem_cons h1, List.drop_eq_getElem_cons h2, goR]
    have e : round keysL[k] w[k] (rounds w s k) = rounds w s (k + 1) := by rw [rounds, getD_at keysL k 0 h1, getD_at w k 0 h2]
    rw [e]
    exact goR_rounds w s hw n (k + 1) (by omega)
theorem rounds_toN : ∀ (ks ws : List UInt32) (s : St), roundsN (ks.map UInt32.toNat) (ws.map UInt32.toNat) s.a.toNat s.b.toNat s.c.toNat s.d.toNat s.e.toNat s.f.toNat s.g.toNat s.h.toNat = (goR ks ws s).cells.map UInt32.toNat
  | [], _, _ => rfl
  | _ :: _, [], _ => rfl
  | k :: ks, w :: ws, s => by
    rw [goR, ← rounds_toN ks ws (round k w s)]
    have e1 : (tOf k w s).toNat = addN (addN (addN (addN s.h.toNat (Nat.xor (Nat.xor (rotN s.e.toNat 6) (rotN s.e.toNat 11)) (rotN s.e.toNat 25))) (Nat.xor (Nat.land s.e.toNat s.f.toNat) (Nat.land (Nat.sub 4294967295 s.e.toNat) s.g.toNat))) k.toNat) w.toNat := by
      rw [tOf, add_toN, add_toN, add_toN, add_toN, rot3_toN _ _ _ _ (by omega) (by omega) (by omega), xor_toN, and_toN, and_toN, not_toN]
    have e2 : (uOf s).toNat = addN (Nat.xor (Nat.xor (rotN s.a.toNat 2) (rotN s.a.toNat 13)) (rotN s.a.toNat 22)) (Nat.xor (Nat.xor (Nat.land s.a.toNat s.b.toNat) (Nat.land s.a.toNat s.c.toNat)) (Nat.land s.b.toNat s.c.toNat)) := by
      rw [uOf, add_toN, rot3_toN _ _ _ _ (by omega) (by omega) (by omega), majOf, xor_toN, xor_toN, and_toN, and_toN, and_toN]
    simp only [List.map_cons, roundsN, forceN_eq]
    rw [← e1, ← e2, ← add_toN, ← add_toN]
    rfl
theorem sched_toN (b : List UInt8) : ∀ n m, schedN n (((sched b m).drop m).map UInt32.toNat) ((sched b m).map UInt32.toNat).reverse = (sched b (m + n)).map UInt32.toNat
  | 0, m => by rw [schedN, List.reverse_reverse, Nat.add_zero]
  | n + 1, m => by
    have hl := sched_len b m
    have hd : ((sched b m).drop m).length = 16 := by rw [List.length_drop, hl]; omega
    have ih := sched_toN b n (m + 1)
    have hs : sched b (m + 1) = sched b m ++ [nextW (sched b m)] := rfl
    have hg : ∀ i, i < 16 → (sched b m).getD (m + i) 0 = ((sched b m).drop m).getD i 0 := fun i hi => by
      rw [getD_at _ _ _ (by omega), getD_at _ _ _ (by omega), List.getElem_drop]
    have hn : nextW (sched b m) = pW (pW (pW (((sched b m).drop m).getD 0 0) (ssig0 (((sched b m).drop m).getD 1 0))) (((sched b m).drop m).getD 9 0)) (ssig1 (((sched b m).drop m).getD 14 0)) := by
      unfold nextW
      rw [hl, show 16 + m - 16 = m + 0 by omega, show 16 + m - 15 = m + 1 by omega, show 16 + m - 7 = m + 9 by omega, show 16 + m - 2 = m + 14 by omega, hg 0 (by omega), hg 1 (by omega), hg 9 (by omega), hg 14 (by omega)]
    have hdr : (sched b (m + 1)).drop (m + 1) = ((sched b m).drop m).tail ++ [nextW (sched b m)] := by
      rw [hs, List.drop_append_of_le_length (by omega), List.tail_drop]
    rw [hdr, hs] at ih
    rw [show m + (n + 1) = m + 1 + n by omega, ← ih]
    generalize (sched b m).drop m = D at hd hn
    match D, hd with
    | [w0, w1, w2, w3, w4, w5, w6, w7, w8, w9, w10, w11, w12, w13, w14, w15], _ =>
      have hx : (nextW (sched b m)).toNat = addN (addN (addN w0.toNat (s0N w1.toNat)) w9.toNat) (s1N w14.toNat) := by
        rw [hn]
        show (pW (pW (pW w0 (ssig0 w1)) w9) (ssig1 w14)).toNat = _
        rw [add_toN, add_toN, add_toN, s0_toN, s1_toN]
      simp only [List.map_cons, List.map_nil, schedN, forceN_eq, List.tail_cons, List.cons_append, List.nil_append, List.map_append, List.reverse_append, List.reverse_cons, List.reverse_nil]
      rw [← hx]

def wordsU : List UInt8 → List UInt32
  | p :: q :: r :: s :: rest => wordOf p q r s :: wordsU rest
  | _ => []
theorem word_toN (p q r s : UInt8) : (wordOf p q r s).toNat = Nat.lor (Nat.lor (Nat.lor (Nat.shiftLeft p.toNat 24) (Nat.shiftLeft q.toNat 16)) (Nat.shiftLeft r.toNat 8)) s.toNat := by
  have hb : ∀ x : UInt8, (bW x).toNat = x.toNat := fun _ => rfl
  have hl : ∀ (x : UInt8) (n : Nat), n ≤ 24 → (lW (bW x) n).toNat = Nat.shiftLeft x.toNat n := by
    intro x n hn
    rw [lW, UInt32.toNat_shiftLeft, UInt32.toNat_ofNat', hb, show n % 2 ^ 32 % 32 = n by omega]
    have h1 : x.toNat < 256 := x.toNat_lt
    have h2 : x.toNat <<< n < 2 ^ 32 := by
      rw [Nat.shiftLeft_eq]
      have : 2 ^ n ≤ 2 ^ 24 := Nat.pow_le_pow_right (by decide) hn
      calc x.toNat * 2 ^ n ≤ 255 * 2 ^ 24 := Nat.mul_le_mul (by omega) this
        _ < 2 ^ 32 := by decide
    exact Nat.mod_eq_of_lt h2
  rw [wordOf, oW, UInt32.toNat_or, oW, UInt32.toNat_or, oW, UInt32.toNat_or, hl p 24 (by omega), hl q 16 (by omega), hl r 8 (by omega), hb]
  rfl
theorem wordsU_toN : ∀ l : List UInt8, (wordsU l).map UInt32.toNat = wordsN (l.map UInt8.toNat)
  | [] => rfl
  | [_] => rfl
  | [_, _] => rfl
  | [_, _, _] => rfl
  | p :: q :: r :: s :: rest => by
    simp only [wordsU, List.map_cons, wordsN, word_toN, wordsU_toN rest]
theorem wordsU_len : ∀ l : List UInt8, (wordsU l).length = l.length / 4
  | [] => rfl
  | [_] => by simp [wordsU]
  | [_, _] => by simp [wordsU]
  | [_, _, _] => by simp [wordsU]
  | p :: q :: r :: s :: rest => by
    simp only [wordsU, List.length_cons, wordsU_len rest]; omega
theorem wordsU_get : ∀ (i : Nat) (l : List UInt8), 4 * i + 3 < l.length → (wordsU l)[i]? = some (wordAt l i)
  | 0, p :: q :: r :: s :: rest, _ => rfl
  | i + 1, p :: q :: r :: s :: rest, h => by
    have e : wordAt (p :: q :: r :: s :: rest) (i + 1) = wordAt rest i := by
      unfold wordAt
      rw [show 4 * (i + 1) = 4 * i + 4 by omega, show 4 * i + 4 + 1 = 4 * i + 1 + 4 by omega, show 4 * i + 4 + 2 = 4 * i + 2 + 4 by omega, show 4 * i + 4 + 3 = 4 * i + 3 + 4 by omega]
      rfl
    rw [wordsU, List.getElem?_cons_succ, e]
    exact wordsU_get i rest (by simp only [List.length_cons] at h; omega)
  | i, [], h => by simp only [List.length_nil] at h; omega
  | i, [_], h => by simp only [List.length_cons, List.length_nil] at h; omega
  | i, [_, _], h => by simp only [List.length_cons, List.length_nil] at h; omega
  | i, [_, _, _], h => by simp only [List.length_cons, List.length_nil] at h; omega
theorem words16_get (b : List UInt8) : ∀ n i, i < n → (words16 b n)[i]? = some (wordAt b i)
  | 0, _, h => absurd h (by omega)
  | n + 1, i, h => by
    by_cases hi : i < n
    · rw [words16, List.getElem?_append_left (by rw [words16_len]; exact hi)]
      exact words16_get b n i hi
    · have e : i = n := by omega
      subst e
      rw [words16, List.getElem?_append_right (by rw [words16_len]; exact Nat.le_refl _), words16_len, Nat.sub_self]
      rfl
theorem words16_eq (b : List UInt8) (h : b.length = 64) : words16 b 16 = wordsU b := by
  apply List.ext_getElem?
  intro i
  by_cases hi : i < 16
  · rw [words16_get b 16 i hi, wordsU_get i b (by omega)]
  · rw [List.getElem?_eq_none (by rw [words16_len]; omega), List.getElem?_eq_none (by rw [wordsU_len]; omega)]
theorem stir_toN (s : St) (b : List UInt8) (h : b.length = 64) : (stir s b).cells.map UInt32.toNat = blockN keysN (wordsN (b.map UInt8.toNat)) (s.cells.map UInt32.toNat) := by
  have h1 := sched_toN b 48 0
  rw [Nat.zero_add, List.drop_zero] at h1
  have h0 : (sched b 0).map UInt32.toNat = wordsN (b.map UInt8.toNat) := by
    show (words16 b 16).map UInt32.toNat = _
    rw [words16_eq b h, wordsU_toN]
  rw [h0] at h1
  have hr := rounds_toN keysL (sched b 48) s
  have hg := goR_rounds (sched b 48) s (sched_len b 48) 64 0 rfl
  rw [List.drop_zero, List.drop_zero] at hg
  have hg' : goR keysL (sched b 48) s = rounds (sched b 48) s 64 := hg
  rw [hg', ← h1] at hr
  have hst : stir s b = s.add (rounds (sched b 48) s 64) := rfl
  rw [hst]
  generalize rounds (sched b 48) s 64 = R at hr
  simp only [St.cells, List.map_cons, List.map_nil] at hr ⊢
  rw [blockN]
  show _ = (match roundsN (keysL.map UInt32.toNat) (schedN 48 (wordsN (b.map UInt8.toNat)) (wordsN (b.map UInt8.toNat)).reverse) s.a.toNat s.b.toNat s.c.toNat s.d.toNat s.e.toNat s.f.toNat s.g.toNat s.h.toNat with | [a', b', c', d', e', f', g', h'] => forceN (addN s.a.toNat a') fun a => forceN (addN s.b.toNat b') fun b => forceN (addN s.c.toNat c') fun c => forceN (addN s.d.toNat d') fun d => forceN (addN s.e.toNat e') fun e => forceN (addN s.f.toNat f') fun f => forceN (addN s.g.toNat g') fun g => forceN (addN s.h.toNat h') fun h => [a, b, c, d, e, f, g, h] | _ => [])
  rw [hr]
  simp only [forceN_eq, St.add, add_toN]
theorem stirs_shift (s : St) (l : List UInt8) : ∀ n, stirs s l (n + 1) = stirs (stir s (l.take 64)) (l.drop 64) n
  | 0 => by rw [stirs, stirs, stirs]; simp
  | n + 1 => by
    rw [stirs, stirs_shift s l n, stirs, List.drop_drop, show 64 + 64 * n = 64 * (n + 1) by omega]
theorem stirs_toN : ∀ (n : Nat) (l : List UInt8) (s : St), 64 * n ≤ l.length → (stirs s l n).cells.map UInt32.toNat = blocksNN keysN n (l.map UInt8.toNat) (s.cells.map UInt32.toNat)
  | 0, _, _, _ => rfl
  | n + 1, l, s, h => by
    rw [stirs_shift, stirs_toN n (l.drop 64) (stir s (l.take 64)) (by rw [List.length_drop]; omega), stir_toN s (l.take 64) (by rw [List.length_take]; omega), blocksNN, List.map_drop, List.map_take]
theorem bytes_toN (x : UInt32) : (bytesW x).map UInt8.toNat = bytesN x.toNat := by
  simp only [bytesW, bytesN, List.map_cons, List.map_nil, UInt8.toNat_ofNat']
theorem pad_toN (n : Nat) : (padL n).map UInt8.toNat = padNN n := by
  unfold padL padNN lenB
  simp only [List.map_cons, List.map_append, List.map_replicate, List.map_map]
  congr 1
theorem sumN_toN (l : List UInt8) : (sumL l).map UInt8.toNat = sumN (l.map UInt8.toNat) := by
  unfold sumL sumN outB
  have h := stirs_toN ((l.length + 8) / 64 + 1) (l ++ padL l.length) start (by rw [List.length_append, padL_len]; unfold blocksN; omega)
  rw [List.map_append, pad_toN] at h
  rw [List.length_map]
  show _ = (blocksNN keysN ((l.length + 8) / 64 + 1) (l.map UInt8.toNat ++ padNN l.length) (start.cells.map UInt32.toNat)).flatMap bytesN
  rw [← h, List.map_flatMap, List.flatMap_map]
  simp only [bytes_toN]
/-- A sum, reckoned. -/
theorem sumL_eq (l : List UInt8) : sumL l = (sumN (l.map UInt8.toNat)).map UInt8.ofNat := by
  rw [← sumN_toN, List.map_map]
  have e : (UInt8.ofNat ∘ UInt8.toNat) = id := by funext x; simp
  rw [e, List.map_id]
end Go.Proofs.YtpeepiboocdnaaaDoor

namespace Go.Proofs.YtpeepiboocdnaaaDoor
open Go.RowKit

def secretL (seed : List UInt8) (i v : Nat) : List UInt8 := tagL 115 (seed ++ [UInt8.ofNat i, UInt8.ofNat v])
def publicL (s : List UInt8) : List UInt8 := tagL 112 s
def pubL (seed : List UInt8) (i v : Nat) : List UInt8 := publicL (secretL seed i v)
def keyOf (parts : List (List UInt8)) : List UInt8 := tagL 107 parts.flatten
def pubs (seed : List UInt8) : List (List UInt8) := (List.range 32).flatMap fun i => [pubL seed i 0, pubL seed i 1]
def keyL (seed : List UInt8) : List UInt8 := keyOf (pubs seed)
def bitL (msg : List UInt8) (i : Nat) : Nat := ((tagL 109 msg).getD (i / 8) 0).toNat / 2 ^ (7 - i % 8) % 2
def openL (seed msg : List UInt8) : List (List UInt8) := (List.range 32).map fun i => secretL seed i (bitL msg i)
def shutL (seed msg : List UInt8) : List (List UInt8) := (List.range 32).map fun i => pubL seed i (1 - bitL msg i)
def whoParts (msg : List UInt8) (o h : List (List UInt8)) : List (List UInt8) :=
  (List.range 32).flatMap fun i => if bitL msg i = 1 then [h.getD i [], publicL (o.getD i [])] else [publicL (o.getD i []), h.getD i []]
def whoL (msg : List UInt8) (o h : List (List UInt8)) : List UInt8 := keyOf (whoParts msg o h)

theorem bitL_lt (msg : List UInt8) (i : Nat) : bitL msg i = 0 ∨ bitL msg i = 1 := by unfold bitL; omega
theorem range_getD {α : Type} (f : Nat → α) (n i : Nat) (d : α) (h : i < n) : ((List.range n).map f).getD i d = f i := by
  rw [getD_at _ _ _ (by simpa using h)]; simp
theorem flatMap_range {α : Type} (n : Nat) (f g : Nat → List α) (h : ∀ i, i < n → f i = g i) : (List.range n).flatMap f = (List.range n).flatMap g := by
  rw [List.flatMap_def, List.flatMap_def]
  congr 1
  apply List.map_congr_left
  intro i hi
  exact h i (by simpa using hi)
/-- Whose a signature of m is, read as one of n: the parts change places where the bits are unlike. -/
theorem who_of (seed m n : List UInt8) : whoParts n (openL seed m) (shutL seed m) = (List.range 32).flatMap fun i => if bitL n i = bitL m i then [pubL seed i 0, pubL seed i 1] else [pubL seed i 1, pubL seed i 0] := by
  refine flatMap_range 32 _ _ fun i hi => ?_
  have hp : ∀ v, publicL (secretL seed i v) = pubL seed i v := fun _ => rfl
  rw [openL, shutL, range_getD _ _ _ _ hi, range_getD _ _ _ _ hi, hp]
  generalize pubL seed i = f
  rcases bitL_lt m i with h1 | h1 <;> rcases bitL_lt n i with h2 | h2 <;> rw [h1, h2] <;> simp
/-- What is signed is verified. -/
theorem who_sign (seed m : List UInt8) : whoL m (openL seed m) (shutL seed m) = keyL seed := by
  unfold whoL keyL pubs
  rw [who_of]
  congr 1
  exact flatMap_range 32 _ _ fun i _ => by rw [if_pos rfl]

/-! ## Reckoned -/
def tagN (t : Nat) (l : List Nat) : List Nat := sumN (t :: l)
def pubN (seed : List Nat) (i v : Nat) : List Nat := tagN 112 (tagN 115 (seed ++ [i, v]))
theorem tag_toN (t : UInt8) (l : List UInt8) : (tagL t l).map UInt8.toNat = tagN t.toNat (l.map UInt8.toNat) := by
  unfold tagL tagN
  rw [sumN_toN, List.map_cons]
theorem pub_toN (seed : List UInt8) (i v : Nat) (hi : i < 256) (hv : v < 256) : (pubL seed i v).map UInt8.toNat = pubN (seed.map UInt8.toNat) i v := by
  have e : ∀ n, n < 256 → (UInt8.ofNat n).toNat = n := fun n h => by rw [UInt8.toNat_ofNat']; omega
  unfold pubL publicL secretL pubN
  rw [tag_toN, tag_toN, List.map_append, List.map_cons, List.map_cons, List.map_nil, e i hi, e v hv]
  rfl
def seed5 : List UInt8 := 5 :: List.replicate 31 0
def seed5N : List Nat := 5 :: List.replicate 31 0
def tab5 : List (List Nat) := [[53, 102, 152, 228, 166, 185, 20, 159, 225, 101, 135, 167, 2, 131, 163, 207, 9, 159, 170, 92, 206, 228, 193, 39, 251, 175, 50, 235, 231, 251, 191, 166],
  [6, 129, 226, 238, 223, 189, 193, 30, 62, 133, 64, 28, 71, 99, 30, 79, 237, 199, 62, 182, 186, 56, 227, 57, 122, 229, 70, 201, 208, 109, 224, 206],
  [39, 207, 143, 164, 15, 84, 241, 246, 174, 112, 224, 14, 234, 153, 188, 156, 122, 205, 71, 51, 71, 95, 229, 29, 49, 233, 183, 196, 122, 183, 34, 9],
  [175, 90, 0, 248, 66, 15, 93, 203, 97, 193, 172, 218, 140, 191, 41, 234, 0, 2, 68, 150, 60, 150, 233, 226, 59, 36, 36, 154, 243, 92, 168, 125],
  [68, 39, 62, 89, 70, 176, 193, 194, 141, 137, 215, 77, 9, 132, 182, 22, 105, 166, 53, 137, 13, 72, 167, 11, 204, 211, 67, 36, 138, 222, 70, 61],
  [114, 167, 157, 33, 55, 234, 181, 145, 205, 174, 71, 193, 235, 115, 80, 160, 114, 97, 3, 10, 171, 230, 54, 55, 172, 41, 219, 169, 181, 155, 251, 17],
  [124, 108, 48, 104, 177, 157, 149, 233, 185, 226, 93, 212, 152, 214, 221, 44, 83, 66, 198, 169, 249, 54, 208, 177, 207, 31, 28, 167, 102, 93, 114, 150],
  [114, 59, 242, 135, 147, 51, 162, 140, 52, 152, 32, 117, 221, 237, 202, 220, 132, 110, 198, 103, 96, 48, 174, 248, 8, 199, 229, 207, 89, 39, 15, 173],
  [3, 138, 15, 214, 120, 18, 32, 213, 89, 189, 222, 89, 184, 214, 160, 32, 167, 251, 148, 169, 124, 180, 14, 198, 153, 74, 239, 95, 235, 114, 230, 47],
  [11, 54, 226, 62, 105, 232, 188, 135, 73, 169, 185, 186, 210, 20, 107, 80, 90, 40, 137, 86, 1, 251, 237, 210, 113, 10, 25, 1, 87, 46, 61, 8],
  [158, 131, 216, 1, 33, 74, 116, 183, 219, 203, 113, 97, 120, 155, 255, 230, 120, 252, 8, 147, 251, 52, 23, 72, 194, 195, 119, 24, 79, 201, 65, 238],
  [25, 209, 208, 129, 134, 3, 21, 148, 16, 205, 160, 133, 255, 47, 154, 134, 95, 180, 141, 65, 51, 18, 86, 16, 196, 232, 90, 100, 155, 185, 252, 151],
  [180, 254, 75, 34, 117, 8, 151, 58, 78, 151, 220, 96, 200, 166, 0, 252, 166, 54, 154, 1, 107, 38, 26, 31, 212, 34, 3, 248, 156, 232, 241, 246],
  [74, 179, 83, 118, 102, 175, 107, 228, 88, 176, 125, 122, 18, 188, 202, 224, 40, 85, 184, 139, 23, 150, 46, 159, 229, 78, 245, 193, 148, 1, 40, 237],
  [67, 79, 211, 98, 88, 51, 219, 110, 126, 106, 6, 48, 150, 216, 166, 50, 85, 227, 152, 25, 165, 201, 121, 130, 90, 54, 233, 14, 155, 237, 114, 96],
  [5, 83, 133, 78, 148, 18, 202, 90, 150, 35, 180, 175, 207, 151, 158, 123, 130, 0, 33, 8, 171, 102, 185, 149, 157, 38, 29, 145, 79, 128, 79, 250],
  [226, 25, 250, 169, 63, 150, 10, 208, 46, 192, 76, 73, 123, 41, 114, 154, 68, 38, 24, 57, 175, 61, 252, 166, 148, 100, 186, 132, 168, 102, 150, 128],
  [166, 38, 138, 210, 105, 38, 185, 50, 236, 204, 29, 203, 83, 17, 61, 82, 177, 161, 119, 83, 189, 82, 240, 92, 148, 9, 58, 112, 222, 11, 30, 202],
  [241, 235, 202, 179, 211, 209, 213, 212, 115, 15, 198, 44, 40, 55, 197, 214, 26, 24, 94, 188, 11, 97, 176, 216, 115, 12, 213, 197, 146, 134, 142, 12],
  [33, 151, 32, 141, 58, 230, 167, 243, 175, 33, 7, 74, 65, 41, 193, 141, 135, 23, 162, 120, 98, 109, 159, 204, 45, 241, 6, 231, 81, 135, 151, 169],
  [168, 127, 52, 120, 88, 168, 12, 215, 152, 30, 231, 152, 216, 67, 169, 180, 51, 240, 200, 137, 230, 104, 237, 35, 157, 77, 32, 192, 103, 37, 21, 133],
  [159, 79, 132, 54, 58, 96, 174, 79, 120, 67, 119, 42, 205, 80, 113, 66, 93, 17, 240, 37, 183, 17, 14, 172, 174, 78, 186, 121, 230, 221, 132, 84],
  [237, 234, 158, 219, 219, 87, 182, 102, 82, 232, 247, 10, 146, 185, 150, 131, 181, 113, 203, 239, 211, 57, 254, 188, 82, 199, 238, 254, 62, 115, 13, 51],
  [224, 116, 149, 127, 159, 58, 4, 154, 234, 145, 140, 150, 52, 119, 160, 129, 100, 219, 171, 46, 223, 213, 30, 31, 175, 69, 191, 112, 112, 175, 113, 15],
  [218, 244, 33, 144, 107, 4, 7, 217, 194, 165, 119, 91, 238, 154, 168, 134, 49, 231, 113, 5, 40, 169, 242, 35, 26, 36, 187, 74, 230, 96, 163, 221],
  [8, 48, 131, 1, 20, 147, 80, 141, 133, 195, 194, 71, 28, 98, 55, 87, 71, 239, 8, 58, 16, 226, 194, 24, 229, 127, 40, 170, 167, 23, 158, 103],
  [209, 57, 81, 250, 92, 247, 231, 233, 107, 208, 68, 176, 140, 246, 217, 198, 176, 34, 187, 182, 206, 212, 102, 18, 140, 154, 227, 237, 162, 84, 218, 186],
  [101, 41, 58, 24, 156, 93, 56, 17, 8, 208, 94, 13, 175, 212, 251, 139, 150, 138, 151, 181, 129, 201, 37, 103, 44, 83, 94, 255, 111, 169, 187, 29],
  [234, 10, 201, 78, 123, 86, 154, 204, 225, 172, 51, 141, 6, 155, 222, 124, 71, 74, 29, 212, 165, 89, 143, 152, 75, 214, 194, 89, 145, 71, 234, 144],
  [81, 185, 63, 212, 222, 103, 38, 89, 51, 172, 212, 121, 125, 205, 72, 167, 2, 89, 35, 62, 163, 78, 161, 190, 199, 84, 152, 52, 137, 55, 202, 90],
  [160, 211, 57, 12, 77, 155, 106, 26, 39, 229, 183, 222, 99, 224, 35, 3, 20, 90, 71, 59, 185, 53, 81, 31, 89, 27, 199, 214, 126, 185, 65, 196],
  [135, 66, 123, 122, 225, 158, 208, 118, 228, 83, 55, 110, 158, 154, 120, 183, 28, 49, 8, 18, 172, 206, 137, 48, 140, 95, 89, 128, 144, 159, 70, 11],
  [130, 172, 31, 89, 136, 75, 36, 162, 0, 130, 64, 216, 56, 217, 149, 101, 31, 183, 137, 207, 171, 60, 236, 241, 173, 177, 2, 236, 107, 115, 22, 6],
  [82, 157, 223, 143, 20, 0, 97, 197, 187, 51, 54, 55, 177, 42, 4, 253, 88, 181, 111, 105, 145, 51, 166, 191, 10, 114, 222, 154, 201, 196, 18, 172],
  [3, 230, 233, 90, 59, 138, 148, 232, 136, 205, 85, 99, 201, 47, 55, 99, 96, 155, 19, 217, 10, 44, 192, 78, 135, 249, 54, 245, 150, 58, 130, 81],
  [133, 156, 92, 210, 245, 60, 180, 57, 168, 108, 248, 3, 48, 49, 50, 241, 158, 28, 3, 235, 36, 150, 36, 170, 36, 11, 66, 147, 63, 237, 64, 50],
  [254, 216, 63, 250, 31, 6, 90, 187, 111, 253, 129, 155, 139, 116, 34, 178, 12, 82, 61, 182, 42, 185, 200, 22, 34, 214, 185, 237, 80, 246, 229, 173],
  [60, 154, 19, 130, 190, 77, 36, 150, 143, 104, 98, 144, 95, 217, 101, 245, 103, 82, 165, 87, 192, 202, 250, 52, 23, 109, 154, 19, 59, 68, 170, 150],
  [19, 104, 74, 197, 113, 198, 146, 251, 83, 4, 222, 119, 179, 254, 203, 208, 32, 125, 151, 233, 166, 60, 84, 54, 228, 92, 143, 237, 41, 196, 141, 159],
  [95, 86, 208, 97, 13, 132, 85, 238, 154, 48, 251, 154, 13, 3, 21, 158, 140, 137, 49, 18, 130, 208, 4, 64, 101, 8, 169, 51, 9, 43, 177, 146],
  [218, 229, 132, 226, 212, 88, 129, 178, 54, 138, 45, 169, 65, 51, 27, 56, 164, 7, 33, 74, 239, 36, 237, 232, 105, 198, 113, 206, 149, 78, 66, 244],
  [139, 168, 202, 101, 105, 15, 130, 153, 106, 95, 182, 146, 139, 215, 10, 212, 11, 125, 31, 75, 99, 189, 119, 151, 73, 50, 112, 57, 10, 90, 24, 211],
  [136, 90, 30, 125, 9, 23, 171, 232, 239, 184, 179, 55, 16, 33, 35, 113, 59, 78, 69, 221, 241, 190, 163, 222, 170, 16, 241, 44, 105, 140, 74, 190],
  [175, 237, 72, 15, 212, 7, 140, 86, 60, 249, 200, 168, 145, 250, 26, 2, 47, 242, 48, 254, 49, 35, 237, 163, 136, 15, 34, 133, 82, 225, 31, 10],
  [251, 18, 119, 15, 127, 205, 43, 34, 95, 189, 39, 93, 130, 129, 191, 214, 76, 217, 78, 204, 132, 247, 216, 39, 228, 234, 0, 142, 222, 132, 116, 227],
  [142, 118, 9, 8, 125, 116, 240, 165, 145, 108, 66, 198, 19, 250, 164, 103, 72, 237, 143, 195, 184, 207, 159, 141, 92, 241, 103, 22, 37, 57, 219, 213],
  [192, 196, 169, 129, 34, 98, 244, 200, 167, 69, 236, 195, 215, 30, 145, 229, 115, 77, 30, 119, 251, 7, 6, 148, 19, 106, 74, 48, 185, 32, 50, 12],
  [32, 210, 147, 103, 63, 210, 178, 105, 105, 239, 187, 79, 91, 169, 117, 29, 166, 63, 37, 141, 163, 123, 129, 129, 113, 219, 129, 240, 203, 40, 251, 229],
  [6, 56, 113, 99, 111, 16, 5, 183, 57, 179, 157, 214, 167, 159, 202, 26, 136, 149, 57, 226, 184, 22, 106, 217, 120, 60, 123, 103, 139, 119, 87, 48],
  [155, 249, 144, 74, 6, 77, 214, 253, 229, 116, 36, 235, 170, 23, 133, 178, 97, 69, 124, 181, 154, 184, 164, 94, 133, 196, 152, 79, 201, 48, 99, 86],
  [34, 8, 41, 219, 164, 83, 92, 16, 70, 7, 70, 164, 243, 107, 86, 90, 43, 155, 72, 134, 122, 207, 73, 233, 111, 132, 36, 112, 135, 27, 135, 143],
  [10, 82, 42, 200, 233, 22, 43, 47, 53, 175, 93, 2, 9, 108, 135, 65, 100, 180, 177, 225, 93, 82, 243, 134, 75, 11, 230, 180, 1, 32, 139, 216],
  [13, 191, 226, 225, 170, 202, 219, 113, 114, 93, 10, 8, 66, 190, 139, 219, 197, 230, 179, 169, 63, 151, 243, 225, 103, 136, 33, 102, 148, 164, 189, 231],
  [140, 64, 175, 79, 221, 202, 67, 210, 172, 117, 128, 55, 238, 227, 125, 253, 93, 134, 78, 170, 217, 181, 131, 230, 18, 41, 207, 8, 110, 210, 130, 155],
  [30, 49, 128, 70, 202, 25, 209, 185, 7, 142, 81, 172, 168, 85, 8, 25, 11, 181, 50, 80, 225, 168, 149, 128, 119, 28, 239, 236, 56, 231, 24, 152],
  [239, 105, 156, 187, 150, 57, 212, 140, 92, 4, 158, 190, 67, 33, 53, 60, 21, 168, 147, 222, 38, 141, 40, 250, 238, 7, 85, 144, 192, 253, 127, 119],
  [203, 146, 118, 122, 51, 71, 133, 124, 70, 145, 119, 106, 140, 184, 85, 7, 243, 255, 104, 151, 206, 210, 43, 1, 139, 145, 85, 6, 243, 109, 255, 158],
  [36, 216, 22, 29, 252, 153, 205, 140, 113, 25, 6, 98, 3, 88, 65, 131, 85, 133, 80, 20, 61, 58, 62, 18, 209, 187, 246, 23, 204, 87, 143, 185],
  [183, 240, 36, 195, 94, 176, 72, 163, 160, 42, 146, 199, 144, 166, 74, 48, 174, 11, 117, 216, 232, 41, 89, 94, 142, 105, 234, 87, 9, 154, 144, 65],
  [6, 81, 123, 56, 15, 239, 128, 63, 226, 27, 180, 224, 95, 203, 86, 208, 142, 54, 110, 42, 9, 159, 176, 140, 243, 97, 151, 158, 142, 11, 242, 18],
  [239, 115, 28, 29, 224, 239, 139, 65, 81, 24, 111, 3, 113, 31, 35, 123, 34, 202, 32, 23, 181, 172, 28, 242, 26, 159, 131, 222, 95, 60, 11, 182],
  [48, 97, 29, 197, 173, 200, 226, 184, 173, 244, 67, 90, 101, 66, 78, 228, 131, 184, 48, 254, 131, 5, 162, 237, 40, 212, 146, 54, 36, 71, 0, 130],
  [11, 18, 214, 23, 10, 83, 113, 74, 103, 197, 230, 174, 47, 198, 238, 34, 242, 70, 185, 99, 129, 11, 30, 246, 195, 50, 231, 112, 247, 137, 23, 19],
  [111, 97, 194, 207, 229, 195, 204, 225, 208, 92, 213, 94, 145, 62, 129, 247, 83, 109, 185, 134, 150, 172, 43, 167, 22, 126, 77, 191, 172, 178, 83, 239]]
set_option maxRecDepth 100000 in
theorem tab5_is : ((List.range 32).map fun i => [pubN seed5N i 0, pubN seed5N i 1]) = (List.range 32).map fun i => [tab5.getD (2 * i) [], tab5.getD (2 * i + 1) []] := by decide +kernel
theorem pub5 (i : Nat) (h : i < 32) : (pubL seed5 i 0).map UInt8.toNat = tab5.getD (2 * i) [] ∧ (pubL seed5 i 1).map UInt8.toNat = tab5.getD (2 * i + 1) [] := by
  have h1 := congrArg (fun l => l.getD i []) tab5_is
  simp only [range_getD _ _ _ _ h, List.cons.injEq, and_true] at h1
  have hs : seed5.map UInt8.toNat = seed5N := by decide +kernel
  rw [pub_toN _ _ _ (by omega) (by omega), pub_toN _ _ _ (by omega) (by omega), hs]
  exact h1
def bitsA : List Nat := [0, 0, 1, 1, 1, 1, 0, 0, 0, 1, 0, 0, 0, 1, 0, 0, 1, 1, 0, 0, 0, 0, 1, 1, 1, 1, 1, 0, 0, 0, 0, 1]
def bitsB : List Nat := [1, 1, 1, 0, 0, 0, 0, 0, 0, 0, 1, 0, 0, 0, 0, 1, 1, 1, 0, 1, 0, 1, 1, 1, 1, 1, 0, 1, 0, 1, 0, 0]
set_option maxRecDepth 100000 in
theorem bits_tab : (List.range 32).map (fun i => (tagN 109 [97]).getD (i / 8) 0 / 2 ^ (7 - i % 8) % 2) = bitsA ∧ (List.range 32).map (fun i => (tagN 109 [98]).getD (i / 8) 0 / 2 ^ (7 - i % 8) % 2) = bitsB := by decide +kernel
theorem getD_map (l : List UInt8) (i : Nat) : (l.getD i 0).toNat = (l.map UInt8.toNat).getD i 0 := by
  rw [List.getD_eq_getElem?_getD, List.getD_eq_getElem?_getD, List.getElem?_map]
  cases l[i]? <;> rfl
theorem bitA (i : Nat) (h : i < 32) : bitL [97] i = bitsA.getD i 0 := by
  rw [← bits_tab.1, range_getD _ _ _ _ h, bitL, getD_map, tag_toN]; rfl
theorem bitB (i : Nat) (h : i < 32) : bitL [98] i = bitsB.getD i 0 := by
  rw [← bits_tab.2, range_getD _ _ _ _ h, bitL, getD_map, tag_toN]; rfl
def partsN (l : List Nat) : List Nat := ((List.range 32).flatMap fun i => if l.getD i 0 = bitsA.getD i 0 then [tab5.getD (2 * i) [], tab5.getD (2 * i + 1) []] else [tab5.getD (2 * i + 1) [], tab5.getD (2 * i) []]).flatten
set_option maxRecDepth 100000 in
theorem key_heads : (tagN 107 (partsN bitsA)).head? = some 179 ∧ (tagN 107 (partsN bitsB)).head? = some 90 := by decide +kernel
theorem who5 (n : List UInt8) (l : List Nat) (h : ∀ i, i < 32 → bitL n i = l.getD i 0) : (whoL n (openL seed5 [97]) (shutL seed5 [97])).map UInt8.toNat = tagN 107 (partsN l) := by
  unfold whoL keyOf partsN
  rw [tag_toN, who_of, List.map_flatten, List.map_flatMap]
  congr 2
  refine flatMap_range 32 _ _ fun i hi => ?_
  rw [h i hi, bitA i hi]
  obtain ⟨p0, p1⟩ := pub5 i hi
  split
  · rw [List.map_cons, List.map_cons, List.map_nil, p0, p1]
  · rw [List.map_cons, List.map_cons, List.map_nil, p0, p1]
/-- Another message's signature is another key's. -/
theorem other5 : whoL [98] (openL seed5 [97]) (shutL seed5 [97]) ≠ keyL seed5 := by
  intro e
  have h1 := who5 [98] bitsB bitB
  have h2 := who5 [97] bitsA bitA
  rw [who_sign] at h2
  rw [e, h2] at h1
  have h3 := key_heads.1
  rw [h1, key_heads.2] at h3
  cases h3
end Go.Proofs.YtpeepiboocdnaaaDoor
