/- SHA-256 as a plain function of lists: words, rounds, blocks, padding. No memory, no project. -/
import Derived.Test.YtmfnncfiaaeknaaDoorRow
namespace Go.Proofs.YtmfnncfiaaeknaaDoor
open Go.RowKit

/-- A word as a value. -/
def wv (x : UInt32) : Value := .int .u32 (x.toNat : Int)
/-! The operations on words under names of their own: the walk then leaves them as they are. -/
def xW (x y : UInt32) : UInt32 := x ^^^ y
def aW (x y : UInt32) : UInt32 := x &&& y
def oW (x y : UInt32) : UInt32 := x ||| y
def pW (x y : UInt32) : UInt32 := x + y
def nW (x : UInt32) : UInt32 := ~~~x
def rW (x : UInt32) (n : Nat) : UInt32 := x >>> UInt32.ofNat n
def lW (x : UInt32) (n : Nat) : UInt32 := x <<< UInt32.ofNat n
def bW (b : UInt8) : UInt32 := b.toUInt32
def rotr (x : UInt32) (n : Nat) : UInt32 := oW (rW x n) (lW x (32 - n))
def rot3 (x : UInt32) (i j k : Nat) : UInt32 := xW (xW (rotr x i) (rotr x j)) (rotr x k)
def ssig0 (x : UInt32) : UInt32 := xW (xW (rotr x 7) (rotr x 18)) (rW x 3)
def ssig1 (x : UInt32) : UInt32 := xW (xW (rotr x 17) (rotr x 19)) (rW x 10)
def wordOf (p q r s : UInt8) : UInt32 := oW (oW (oW (lW (bW p) 24) (lW (bW q) 16)) (lW (bW r) 8)) (bW s)
def wordAt (b : List UInt8) (i : Nat) : UInt32 := wordOf (b.getD (4 * i) 0) (b.getD (4 * i + 1) 0) (b.getD (4 * i + 2) 0) (b.getD (4 * i + 3) 0)
/-- The first n words of a block. -/
def words16 (b : List UInt8) : Nat → List UInt32
  | 0 => []
  | n + 1 => words16 b n ++ [wordAt b n]
def nextW (w : List UInt32) : UInt32 := pW (pW (pW (w.getD (w.length - 16) 0) (ssig0 (w.getD (w.length - 15) 0))) (w.getD (w.length - 7) 0)) (ssig1 (w.getD (w.length - 2) 0))
/-- A block's words: n more than 16. -/
def sched (b : List UInt8) : Nat → List UInt32
  | 0 => words16 b 16
  | n + 1 => sched b n ++ [nextW (sched b n)]
structure St where
  (a b c d e f g h : UInt32)
deriving DecidableEq
def keysL : List UInt32 := [0x428a2f98, 0x71374491, 0xb5c0fbcf, 0xe9b5dba5, 0x3956c25b, 0x59f111f1, 0x923f82a4, 0xab1c5ed5,
  0xd807aa98, 0x12835b01, 0x243185be, 0x550c7dc3, 0x72be5d74, 0x80deb1fe, 0x9bdc06a7, 0xc19bf174,
  0xe49b69c1, 0xefbe4786, 0x0fc19dc6, 0x240ca1cc, 0x2de92c6f, 0x4a7484aa, 0x5cb0a9dc, 0x76f988da,
  0x983e5152, 0xa831c66d, 0xb00327c8, 0xbf597fc7, 0xc6e00bf3, 0xd5a79147, 0x06ca6351, 0x14292967,
  0x27b70a85, 0x2e1b2138, 0x4d2c6dfc, 0x53380d13, 0x650a7354, 0x766a0abb, 0x81c2c92e, 0x92722c85,
  0xa2bfe8a1, 0xa81a664b, 0xc24b8b70, 0xc76c51a3, 0xd192e819, 0xd6990624, 0xf40e3585, 0x106aa070,
  0x19a4c116, 0x1e376c08, 0x2748774c, 0x34b0bcb5, 0x391c0cb3, 0x4ed8aa4a, 0x5b9cca4f, 0x682e6ff3,
  0x748f82ee, 0x78a5636f, 0x84c87814, 0x8cc70208, 0x90befffa, 0xa4506ceb, 0xbef9a3f7, 0xc67178f2]
def start : St := ⟨0x6a09e667, 0xbb67ae85, 0x3c6ef372, 0xa54ff53a, 0x510e527f, 0x9b05688c, 0x1f83d9ab, 0x5be0cd19⟩
def tOf (k w : UInt32) (s : St) : UInt32 := pW (pW (pW (pW s.h (rot3 s.e 6 11 25)) (xW (aW s.e s.f) (aW (nW s.e) s.g))) k) w
def majOf (s : St) : UInt32 := xW (xW (aW s.a s.b) (aW s.a s.c)) (aW s.b s.c)
def uOf (s : St) : UInt32 := pW (rot3 s.a 2 13 22) (majOf s)
def round (k w : UInt32) (s : St) : St := ⟨pW (tOf k w s) (uOf s), s.a, s.b, s.c, pW s.d (tOf k w s), s.e, s.f, s.g⟩
/-- n rounds. -/
def rounds (w : List UInt32) (s : St) : Nat → St
  | 0 => s
  | n + 1 => round (keysL.getD n 0) (w.getD n 0) (rounds w s n)
def St.add (s t : St) : St := ⟨pW s.a t.a, pW s.b t.b, pW s.c t.c, pW s.d t.d, pW s.e t.e, pW s.f t.f, pW s.g t.g, pW s.h t.h⟩
def St.cells (s : St) : List UInt32 := [s.a, s.b, s.c, s.d, s.e, s.f, s.g, s.h]
/-- The state after one more block. -/
def stir (s : St) (b : List UInt8) : St := s.add (rounds (sched b 48) s 64)
/-- The state after n blocks of l. -/
def stirs (s : St) (l : List UInt8) : Nat → St
  | 0 => s
  | n + 1 => stir (stirs s l n) ((l.drop (64 * n)).take 64)
/-- A length's eight bytes, in bits, the highest first. -/
def lenB (n : Nat) : List UInt8 := (List.range 8).map fun i => UInt8.ofNat (8 * n / 2 ^ (8 * (7 - i)))
/-- What stands behind n bytes. -/
def padL (n : Nat) : List UInt8 := 0x80 :: (List.replicate (64 * ((n + 8) / 64 + 1) - n - 9) 0 ++ lenB n)
def bytesW (x : UInt32) : List UInt8 := [UInt8.ofNat (x.toNat / 2 ^ 24), UInt8.ofNat (x.toNat / 2 ^ 16), UInt8.ofNat (x.toNat / 2 ^ 8), UInt8.ofNat (x.toNat / 2 ^ 0)]
def outB (s : St) : List UInt8 := s.cells.flatMap bytesW
/-- SHA-256 of a list of bytes. -/
def sumL (l : List UInt8) : List UInt8 := outB (stirs start (l ++ padL l.length) ((l.length + 8) / 64 + 1))
def tagL (t : UInt8) (l : List UInt8) : List UInt8 := sumL (t :: l)

theorem outB_len (s : St) : (outB s).length = 32 := rfl
theorem sumL_len (l : List UInt8) : (sumL l).length = 32 := rfl
theorem sum_nil : (sumL []).take 4 = [0xe3, 0xb0, 0xc4, 0x42] := by decide +kernel
theorem sum_abc : (sumL [97, 98, 99]).take 4 = [0xba, 0x78, 0x16, 0xbf] := by decide +kernel
end Go.Proofs.YtmfnncfiaaeknaaDoor
