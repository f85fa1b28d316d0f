/- Proofs of rows: as plain values, and in memory. -/
import Derived.Test.YtpeepiboocdnaaaDoorStB
import Derived.Test.YtpeepiboocdnaaaDoorKJ
import Derived.Test.YtpeepiboocdnaaaDoorKH
namespace Go.Proofs.YtpeepiboocdnaaaDoor
open Go.RowKit

/-- A path as one cell: where it lies, its hashes' bytes, how many they are, its room. -/
abbrev Ph := Option Addr × List UInt8 × Nat × Nat
def hv (r : Ph) : Value := .slice r.1 r.2.2.1 r.2.2.2
/-- It reads so. -/
structure Ph.ok (w : World) (r : Ph) : Prop where
  rd : RdB w r.1 r.2.1
  len : r.2.1.length = r.2.2.1 * 32
  cap : r.2.2.1 ≤ r.2.2.2
  at0 : 0 < r.2.2.1 → ∃ g, r.1 = some ⟨g, 0, none⟩
theorem Ph.ok.kept {w w' : World} {r : Ph} (h : Ph.ok w r) (hg : w.grownBy w' none) : Ph.ok w' r := ⟨h.rd.kept hg, h.len, h.cap, h.at0⟩
theorem own_path {w : World} {v : Value} {P : List UInt8} {n : Nat} (h : OwnHs w v P n) : ∃ r : Ph, v = hv r ∧ r.2.1 = P ∧ r.2.2.1 = n := by
  obtain ⟨A, c, e, -⟩ := h.form
  exact ⟨(A, P, n, c), e, rfl, rfl⟩
theorem path_ok {w : World} {r : Ph} (h : OwnHs w (hv r) r.2.1 r.2.2.1) : Ph.ok w r := by
  obtain ⟨A, c, e, h1, h2, -, h3⟩ := h.form
  have e1 : r.1 = A ∧ r.2.2.2 = c := by unfold hv at e; injection e with a b c; exact ⟨a, c⟩
  exact ⟨by rw [e1.1]; exact h2, h.len, by rw [e1.2]; exact h1, by rw [e1.1]; exact h3⟩
/-- Paths of the call's own, each in a block of its own. -/
def OwnPaths (w : World) (rs : List Ph) : Prop := ∀ r ∈ rs, OwnHs w (hv r) r.2.1 r.2.2.1
theorem OwnPaths.kept {w w' : World} {rs : List Ph} (h : OwnPaths w rs) (hg : w.grownBy w' none) : OwnPaths w' rs := fun r hr => (h r hr).kept hg
theorem OwnPaths.keep {w w' : World} {rs : List Ph} {row : Option Nat} (h : OwnPaths w rs) (hg : w.grownBy w' row) (hne : ∀ r ∈ rs, (hv r).ownBlock = none ∨ (hv r).ownBlock ≠ row) : OwnPaths w' rs := fun r hr => (h r hr).keep hg (hne r hr)
/-- A row of paths. -/
def RdPs (w : World) (A : Option Addr) (rs : List Ph) : Prop := RdAt w A (rs.map hv) ∧ ∀ r ∈ rs, Ph.ok w r
theorem RdPs.kept {w w' : World} {A : Option Addr} {rs : List Ph} (h : RdPs w A rs) (hg : w.grownBy w' none) : RdPs w' A rs := ⟨RdAt.kept h.1 hg, fun r hr => (h.2 r hr).kept hg⟩
theorem RdPs.get {w : World} {A : Option Addr} {rs : List Ph} (h : RdPs w A rs) {k : Nat} (hk : k < rs.length) : ∃ ad, A = some ad ∧ w.cell? (ad.add k) = some (hv rs[k]) ∧ Ph.ok w rs[k] := by
  obtain ⟨ad, e, hc⟩ := RdAt.get h.1 (k := k) (by rw [List.length_map]; exact hk)
  rw [List.getElem_map] at hc
  exact ⟨ad, e, hc, h.2 _ (List.getElem_mem hk)⟩

/-- A proof: how many pairs there are, the first one's place, the pairs, their paths' bytes. -/
structure Pf where
  count : Int
  first : Int
  pairs : List Kv
  paths : List (List UInt8)
/-- It reads so. -/
structure IsPf (w : World) (P : Pf) (A : Option Addr) (c : Nat) (B : Option Addr) (d : Nat) (rs : List Ph) : Prop where
  hc : P.pairs.length ≤ c
  rd : RdQ w A P.pairs
  hd : P.paths.length ≤ d
  rp : RdPs w B rs
  ps : rs.map (fun r => r.2.1) = P.paths
def pfv (P : Pf) (A : Option Addr) (c : Nat) (B : Option Addr) (d : Nat) : Value := .agg #[.int .i64 P.count, .int .i64 P.first, .slice A P.pairs.length c, .slice B P.paths.length d]
theorem IsPf.kept {w w' : World} {P : Pf} {A : Option Addr} {c : Nat} {B : Option Addr} {d : Nat} {rs : List Ph} (h : IsPf w P A c B d rs) (hg : w.grownBy w' none) : IsPf w' P A c B d rs := ⟨h.hc, RdAt.kept h.rd hg, h.hd, h.rp.kept hg, h.ps⟩
theorem IsPf.len {w : World} {P : Pf} {A : Option Addr} {c : Nat} {B : Option Addr} {d : Nat} {rs : List Ph} (h : IsPf w P A c B d rs) : rs.length = P.paths.length := by rw [← h.ps, List.length_map]

/-- It lies in blocks from N on. -/
structure NewPf (N : Nat) (A B : Option Addr) (rs : List Ph) : Prop where
  a : ∀ ad, A = some ad → N ≤ ad.block
  b : ∀ ad, B = some ad → N ≤ ad.block
  r : ∀ r ∈ rs, ∀ ad, r.1 = some ad → N ≤ ad.block
theorem NewPf.le {N M : Nat} {A B : Option Addr} {rs : List Ph} (h : NewPf N A B rs) (hm : M ≤ N) : NewPf M A B rs := ⟨fun ad e => Nat.le_trans hm (h.a ad e), fun ad e => Nat.le_trans hm (h.b ad e), fun r hr ad e => Nat.le_trans hm (h.r r hr ad e)⟩
/-- An elder block is written. -/
theorem IsPf.over {w : World} {P : Pf} {A : Option Addr} {c : Nat} {B : Option Addr} {d : Nat} {rs : List Ph} {N g : Nat} (h : IsPf w P A c B d rs) (hn : NewPf N A B rs) (hg : g < N) (cs : Array Value) : IsPf (w.setRow g cs) P A c B d rs := by
  have hs : w.grownBy (w.setRow g cs) (some g) := grown_setRow (grown_refl _ _) (.inl rfl) _
  have ne : ∀ ad : Addr, N ≤ ad.block → some ad.block ≠ some g := fun ad h e => by injection e with e; omega
  exact ⟨h.hc, RdAt.keep h.rd hs (fun ad e => ne ad (hn.a ad e)), h.hd, ⟨RdAt.keep h.rp.1 hs (fun ad e => ne ad (hn.b ad e)), fun r hr => ⟨RdAt.keep (h.rp.2 r hr).rd hs (fun ad e => ne ad (hn.r r hr ad e)), (h.rp.2 r hr).len, (h.rp.2 r hr).cap, (h.rp.2 r hr).at0⟩⟩, h.ps⟩
/-- A call's result is that proof, all of it new; nothing that was there has changed. -/
def PfAt (w0 : World) (P : Pf) (e : Ending) (w' : World) : Prop := ∃ A c B d rs, e = .returned (pfv P A c B d) ∧ IsPf w' P A c B d rs ∧ NewPf w0.heap.size A B rs ∧ w0.grownBy w' none
/-- The path of place i. -/
def pathB (ps : List Kv) (i : Nat) : List UInt8 := (pathL (leavesL ps) i).flatten
def pathsB (ps : List Kv) (i n : Nat) : List (List UInt8) := (List.range n).map fun k => pathB ps (i + k)
theorem pathsB_next (ps : List Kv) (i n : Nat) : pathsB ps i (n + 1) = pathsB ps i n ++ [pathB ps (i + n)] := by
  unfold pathsB; rw [List.range_succ, List.map_append]; rfl
theorem pathsB_len (ps : List Kv) (i n : Nat) : (pathsB ps i n).length = n := by simp [pathsB]
/-- The proof of the pairs from place i on, below place j. -/
def someL (ps : List Kv) (i j : Nat) : Pf := if i < j then ⟨ps.length, i, (ps.drop i).take (j - i), pathsB ps i (j - i)⟩ else ⟨ps.length, 0, [], []⟩
def coverL (ps : List Kv) (x y : List UInt8) : Pf := someL ps (lowN ps x - 1) (min (max (lowN ps x) (lowN ps y) + 1) ps.length)
end Go.Proofs.YtpeepiboocdnaaaDoor
