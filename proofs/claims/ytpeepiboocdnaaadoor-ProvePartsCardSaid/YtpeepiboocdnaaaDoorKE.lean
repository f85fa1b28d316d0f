/- One-time signatures, the small functions: a secret, its public part, a message's digest, a bit of it; the program's and the document's own. One-time signatures: a bit of a digest; the program's and the document's own. Rows in rows: cells written in the midst of a block, an array's part, a key of all public parts; the program's and the document's own. A seed's key; the program's own. A signature; the program's own. Whose a signature is; the program's own. Whose a signature is: the contract of the program's own function; is it of a key. Signatures of other sizes are nobody's; is a signature of a key. -/
import Derived.Test.YtpeepiboocdnaaaDoorKD
import Derived.Test.YtpeepiboocdnaaaDoorKC
import Derived.Test.YtpeepiboocdnaaaDoorKB
import Derived.Deep.MidRow
import Derived.Deep.RegionHeld3
import Derived.Deep.DeepCutAuto
import Derived.Deep.CutBlock
import Derived.Laws.ResultCell
namespace Go.Proofs.YtpeepiboocdnaaaDoor
open Go.RowKit

def Laid2 (w : World) : Prop := LaidK w ∧ LaidS w
theorem Laid2.kept {w w' : World} (h : Laid2 w) (hg : w.grownBy w' none) : Laid2 w' := ⟨h.1.kept hg, h.2.kept hg⟩
theorem alloc_at {w : World} {o : Obj} {g : Nat} (h : g = w.heap.size) : (w.alloc o).heap[g]? = some o := by subst h; exact heap_alloc_new _ _
theorem alloc_old {w : World} {o o' : Obj} {g : Nat} (h : w.heap[g]? = some o) : (w.alloc o').heap[g]? = some o := keep_of h (grown_alloc (grown_refl _ _) _)
theorem hashV_size (X : List UInt8) (h : X.length = 32) : (Tryd.prog.info? 44).map (·.size) = some (X.map bv).toArray.size := by rw [List.size_toArray, List.length_map, h]; exact size_hash
theorem rdP_kept1 {w : World} {A : Option Addr} {p : Part} (h1 : RdAt w A [pv p]) (h2 : RdB w p.1 p.2.1) : RdP w A [p] := ⟨h1, fun q hq => by rw [List.mem_singleton] at hq; subst hq; exact h2⟩
theorem tagL_len (t : UInt8) (l : List UInt8) : (tagL t l).length = 32 := sumL_len _

end Go.Proofs.YtpeepiboocdnaaaDoor

namespace Go.Proofs.YtpeepiboocdnaaaDoor
open Go.RowKit

/-- A variable made and written. -/
theorem new_hash {w w' : World} {C X : Array Value} {t : TypeId} (h : (w.alloc (.cells C t)).setRow w.heap.size X = w') : w'.heap[w.heap.size]? = some (.cells X t (0, 0)) ∧ w.grownBy w' none := by
  subst h
  exact ⟨setRow_heap _ _ _ _ _ _ (alloc_at rfl), grown_setRow (grown_alloc (grown_refl _ _) _) (.inr (Nat.le_refl _)) _⟩
theorem and1_u8 : ∀ x : Fin 256, ∀ s : Fin 8, bits BinOp.and IntKind.u8 ((x.val : Int) / 2 ^ s.val) 1 = ((x.val / 2 ^ s.val % 2 : Nat) : Int) := by decide +kernel
theorem and1_i64 : ∀ x : Fin 256, ∀ s : Fin 8, bits BinOp.and IntKind.i64 ((x.val : Int) / 2 ^ s.val) 1 = ((x.val / 2 ^ s.val % 2 : Nat) : Int) := by decide +kernel

end Go.Proofs.YtpeepiboocdnaaaDoor

namespace Go.Proofs.YtpeepiboocdnaaaDoor
open Go.RowKit

theorem heap_setCells {b : Nat} {t : TypeId} : ∀ (vs pre old post : List Value) (w : World), old.length = vs.length → w.heap[b]? = some (.cells (pre ++ (old ++ post)).toArray t (0, 0)) → (w.setCells b pre.length vs).heap[b]? = some (.cells (pre ++ (vs ++ post)).toArray t (0, 0))
  | [], pre, old, post, w, hl, h => by
    have : old = [] := List.eq_nil_of_length_eq_zero hl
    subst this
    exact h
  | v :: r, pre, [], post, w, hl, h => by simp at hl
  | v :: r, pre, x :: old, post, w, hl, h => by
    rw [World.setCells]
    have := heap_setCells (b := b) (t := t) r (pre ++ [v]) old post (w.setCell ⟨b, pre.length, none⟩ v) (by simpa using hl) (heap_setCell_to h (by
      apply Array.ext'
      simp))
    rw [List.length_append, List.length_singleton] at this
    simpa using this
theorem grown_setCells {w : World} {row : Option Nat} {b : Nat} (hb : some b = row ∨ w.heap.size ≤ b) : ∀ (vs : List Value) (o : Nat) (w' : World), w.grownBy w' row → w.grownBy (w'.setCells b o vs) row
  | [], _, _, h => h
  | v :: r, o, w', h => by
    rw [World.setCells]
    exact grown_setCells hb r (o + 1) _ (grown_set h (p := ⟨b, o, none⟩) hb v)
theorem range_of_row {w : World} {b : Nat} {X : List UInt8} {t : TypeId} {fr : Nat × Nat} (h : w.heap[b]? = some (.cells (X.map bv).toArray t fr)) : w.rangeAt b 0 (X.map bv) := fun j v hv => by
  rw [cell_of_row w b (0 + j) _ t fr h, Nat.zero_add]
  simpa using hv
theorem info_hash (X : List UInt8) (h : X.length = 32) : (Tryd.prog.info? 44).map (·.size) = some (X.map bv).length := by rw [List.length_map, h]; exact size_hash
theorem there_of {w : World} {b o n : Nat} {C : Array Value} {t : TypeId} (h : w.heap[b]? = some (.cells C t (0, 0))) (hn : o + n ≤ C.size) : w.there b o n := fun j hj => by
  rw [cell_of_row w b (o + j) C t (0, 0) h]
  exact ⟨by rw [Array.getElem?_eq_getElem (by omega)]; rfl, frozen_of_row _ _ _ _ _ h⟩
theorem other_setCells {b g : Nat} (hne : g ≠ b) : ∀ (vs : List Value) (o : Nat) (w : World), (w.setCells b o vs).heap[g]? = w.heap[g]?
  | [], _, _ => rfl
  | v :: r, o, w => by
    rw [World.setCells, other_setCells hne r (o + 1)]
    exact Below.heap_setCell w ⟨b, o, none⟩ v g (by simpa using hne)

/-- A row's part of an array of rows. -/
theorem run_index_part {P : Program} (w : World) (t e f : TypeId) (n m sz i : Nat) (cs : Array Value) (ht : P.underlying t = some (.array n e)) (he : P.underlying e = some (.array m f)) (hs : (P.info? e).map (·.size) = some sz) (hi : i < n) :
    (Instr.index t (.agg cs) (.int .i64 (i : Int))).run P w = .ok (.agg (cs.extract (i * sz) (i * sz + sz))) w := by
  obtain ⟨ii, hq, hsz⟩ := Option.map_eq_some_iff.1 hs
  have hagg : (isAgg e).run P w = .ok true w := by
    unfold isAgg
    rw [Sem.run_bind, run_underlying he w]
    simp
  have h1 : (0 : Int) ≤ (i : Int) ∧ (i : Int) < (n : Int) := ⟨by omega, by omega⟩
  simp [Instr.index, asIntOf, Sem.run_bind, run_underlying ht w, part, hagg, sizeOf, typeInfo, hq, hsz, h1]
  intro h; omega
theorem bytes_part (L : List UInt8) (a n : Nat) : (L.map bv).toArray.extract a (a + n) = (((L.drop a).take n).map bv).toArray := by
  simp [List.map_take, List.map_drop]

theorem make_row (w : World) : (Instr.makeSlice 61 (.int .i64 0) (.int .i64 2048)).run Tryd.prog w = .ok (.slice (some ⟨w.heap.size, 0, none⟩) 0 2048) (w.alloc (.cells (List.replicate 2048 (Value.int .u8 0)).toArray 5)) := by
  obtain ⟨i, hi, hz, hs, hb⟩ := info_parts info_u8
  have := run_make (P := Tryd.prog) w 61 5 i (.int .u8 0) Tryd.underlying61 hi hz .i64 .i64 0 2048 (by omega) (by omega) (by rw [hb]; decide) (by omega)
  rw [hs, show (2048 : Int).toNat = 2048 from rfl, made_bytes] at this
  exact this
end Go.Proofs.YtpeepiboocdnaaaDoor

namespace Go.Proofs.YtpeepiboocdnaaaDoor
open Go.RowKit

/-- A row of 2048 bytes, the first of them written. -/
def rowP (l : List UInt8) : Array Value := (l.map bv ++ List.replicate (2048 - l.length) (Value.int .u8 0)).toArray
theorem rowP_size (l : List UInt8) (h : l.length ≤ 2048) : (rowP l).size = 2048 := by simp [rowP]; omega
theorem rowP_full {l : List UInt8} (h : l.length = 2048) : rowP l = (l.map bv).toArray := by simp [rowP, h]
theorem rowP_put {w : World} {b n : Nat} {t : TypeId} {l x : List UInt8} (h : w.heap[b]? = some (.cells (rowP l) t (0, 0))) (hn : l.length = n) (hl : n + x.length ≤ 2048) : (w.setCells b n (x.map bv)).heap[b]? = some (.cells (rowP (l ++ x)) t (0, 0)) := by
  subst hn
  have := heap_setCells (b := b) (t := t) (x.map bv) (l.map bv) (List.replicate x.length (Value.int .u8 0)) (List.replicate (2048 - (l ++ x).length) (Value.int .u8 0)) w (by simp) (by
    rw [h]
    unfold rowP
    rw [List.replicate_append_replicate, List.length_append, show x.length + (2048 - (l.length + x.length)) = 2048 - l.length from by omega])
  rw [List.length_map] at this
  rw [this]
  unfold rowP
  simp
def pubF (s : List UInt8) (n : Nat) : List UInt8 := ((List.range n).flatMap fun i => [pubL s i 0, pubL s i 1]).flatten
theorem pubF_next (s : List UInt8) (n : Nat) : pubF s (n + 1) = pubF s n ++ pubL s n 0 ++ pubL s n 1 := by
  unfold pubF
  rw [List.range_succ, List.flatMap_append, List.flatten_append]
  simp
theorem pubL_len (s : List UInt8) (i v : Nat) : (pubL s i v).length = 32 := tagL_len _ _
theorem pubF_len (s : List UInt8) : ∀ n, (pubF s n).length = n * 64
  | 0 => rfl
  | n + 1 => by rw [pubF_next, List.length_append, List.length_append, pubL_len, pubL_len, pubF_len s n]; omega
theorem keyL_pubF (s : List UInt8) : keyL s = tagL 107 (pubF s 32) := by unfold keyL keyOf; exact congrArg (tagL 107) (show (pubs s).flatten = pubF s 32 by unfold pubs pubF; exact congrArg List.flatten (Eq.refl _))
/-- The two parts of a bit, as far as they are written. -/
def pairP (f : Nat → List UInt8) (v : Nat) : List UInt8 := if v = 0 then [] else if v = 1 then f 0 else f 0 ++ f 1
theorem pairP_len (f : Nat → List UInt8) (hf : ∀ v, (f v).length = 32) (v : Nat) (h : v ≤ 2) : (pairP f v).length = v * 32 := by
  unfold pairP
  split
  · subst v; rfl
  · split
    · subst v; rw [hf]
    · rw [List.length_append, hf, hf]; omega
theorem pairP_next (f : Nat → List UInt8) (v : Nat) (h : v < 2) : pairP f (v + 1) = pairP f v ++ f v := by
  unfold pairP
  rcases (show v = 0 ∨ v = 1 by omega) with e | e <;> subst e <;> simp
theorem pairP_0 (f : Nat → List UInt8) : pairP f 0 = [] := rfl
theorem pairP_2 (f : Nat → List UInt8) : pairP f 2 = f 0 ++ f 1 := rfl

end Go.Proofs.YtpeepiboocdnaaaDoor

namespace Go.Proofs.YtpeepiboocdnaaaDoor
open Go.RowKit

/-- A row of n bytes, the first of them written. -/
def rowN (n : Nat) (l : List UInt8) : Array Value := (l.map bv ++ List.replicate (n - l.length) (Value.int .u8 0)).toArray
theorem rowN_size (n : Nat) (l : List UInt8) (h : l.length ≤ n) : (rowN n l).size = n := by simp [rowN]; omega
theorem rowN_full {n : Nat} {l : List UInt8} (h : l.length = n) : rowN n l = (l.map bv).toArray := by simp [rowN, h]
theorem rowN_put {w : World} {b n m : Nat} {t : TypeId} {l x : List UInt8} (h : w.heap[b]? = some (.cells (rowN m l) t (0, 0))) (hn : l.length = n) (hl : n + x.length ≤ m) : (w.setCells b n (x.map bv)).heap[b]? = some (.cells (rowN m (l ++ x)) t (0, 0)) := by
  subst hn
  have := heap_setCells (b := b) (t := t) (x.map bv) (l.map bv) (List.replicate x.length (Value.int .u8 0)) (List.replicate (m - (l ++ x).length) (Value.int .u8 0)) w (by simp) (by
    rw [h]
    unfold rowN
    rw [List.replicate_append_replicate, List.length_append, show x.length + (m - (l.length + x.length)) = m - l.length from by omega])
  rw [List.length_map] at this
  rw [this]
  unfold rowN
  simp
theorem other_block {w w' : World} {row : Option Nat} {g : Nat} {o : Obj} (h : w.heap[g]? = some o) (hg : w.grownBy w' row) (hne : some g ≠ row) : w'.heap[g]? = some o :=
  (hg.block _ (Array.getElem?_eq_some_iff.1 h).1 hne).trans h
theorem cell_of_cells {w : World} {g i : Nat} {C : Array Value} {t : TypeId} {fr : Nat × Nat} {v : Value} (h : w.heap[g]? = some (.cells C t fr)) (hv : C[i]? = some v) : w.cell? ⟨g, i, none⟩ = some v := by
  rw [cell_of_row w _ _ _ _ _ h]; exact hv

def partsF (f : Nat → List UInt8) (n : Nat) : List UInt8 := ((List.range n).map f).flatten
theorem partsF_next (f : Nat → List UInt8) (n : Nat) : partsF f (n + 1) = partsF f n ++ f n := by
  unfold partsF
  rw [List.range_succ, List.map_append, List.flatten_append]
  simp
theorem partsF_len (f : Nat → List UInt8) (hf : ∀ i, (f i).length = 32) : ∀ n, (partsF f n).length = n * 32
  | 0 => rfl
  | n + 1 => by rw [partsF_next, List.length_append, hf, partsF_len f hf n]; omega
def openF (s m : List UInt8) (i : Nat) : List UInt8 := secretL s i (bitL m i)
def shutF (s m : List UInt8) (i : Nat) : List UInt8 := pubL s i (1 - bitL m i)
theorem openF_len (s m : List UInt8) (i : Nat) : (openF s m i).length = 32 := tagL_len _ _
theorem shutF_len (s m : List UInt8) (i : Nat) : (shutF s m i).length = 32 := tagL_len _ _
theorem openL_flat (s m : List UInt8) : (openL s m).flatten = partsF (openF s m) 32 := by unfold openL partsF openF; exact Eq.refl _
theorem shutL_flat (s m : List UInt8) : (shutL s m).flatten = partsF (shutF s m) 32 := by unfold shutL partsF shutF; exact Eq.refl _

theorem info_hashrow : (Tryd.prog.info? 44).map (fun i => (i.zero, i.size, i.bytes)) = some (some (.agg (List.replicate 32 (Value.int .u8 0)).toArray), 32, 32) := by kernel_rfl
theorem made_hashes (n : Nat) : madeCells (Value.agg (List.replicate 32 (Value.int .u8 0)).toArray).cells n = (List.replicate n (Value.int .u8 0)).toArray := by
  have h : ∀ x, (List.replicate 32 (Value.int .u8 0)).toArray[x % (List.replicate 32 (Value.int .u8 0)).toArray.size]! = Value.int .u8 0 := fun x => by
    rw [List.size_toArray, List.length_replicate]
    have := Nat.mod_lt x (show 0 < 32 by omega)
    rw [getElem!_pos _ _ (by rw [List.size_toArray, List.length_replicate]; exact this), List.getElem_toArray, List.getElem_replicate]
  apply Array.ext'
  apply List.ext_getElem
  · rw [Array.length_toList, size_madeCells, List.length_replicate]
  · intro i h1 h2
    simp only [madeCells, Value.cells, h, Array.getElem_toList, Array.getElem_map, List.getElem_replicate]
theorem make_hashes (w : World) : (Instr.makeSlice 39 (.int .i64 32) (.int .i64 32)).run Tryd.prog w = .ok (.slice (some ⟨w.heap.size, 0, none⟩) 32 32) (w.alloc (.cells (rowN 1024 []) 44)) := by
  obtain ⟨i, hi, hz, hs, hb⟩ := info_parts info_hashrow
  have := run_make (P := Tryd.prog) w 39 44 i _ Tryd.underlying39 hi hz .i64 .i64 32 32 (by omega) (by omega) (by rw [hb]; decide) (by omega)
  rw [hs, show (32 : Int).toNat = 32 from rfl, show 32 * 32 = 1024 from rfl, made_hashes] at this
  exact this

theorem lt_of_heap {w : World} {g : Nat} {o : Obj} (h : w.heap[g]? = some o) : g < w.heap.size := (Array.getElem?_eq_some_iff.1 h).1

end Go.Proofs.YtpeepiboocdnaaaDoor

namespace Go.Proofs.YtpeepiboocdnaaaDoor
open Go.RowKit

/-- A row with other cells from o on. -/
def over (C : Array Value) (o : Nat) (vs : List Value) : Array Value := (C.toList.take o ++ (vs ++ C.toList.drop (o + vs.length))).toArray
theorem over_size (C : Array Value) (o : Nat) (vs : List Value) (h : o + vs.length ≤ C.size) : (over C o vs).size = C.size := by simp [over]; omega
theorem heap_over {w : World} {b o : Nat} {t : TypeId} {C : Array Value} {vs : List Value} (h : w.heap[b]? = some (.cells C t (0, 0))) (ho : o + vs.length ≤ C.size) : (w.setCells b o vs).heap[b]? = some (.cells (over C o vs) t (0, 0)) := by
  have hp : (C.toList.take o).length = o := by simp; omega
  have := heap_setCells (b := b) (t := t) vs (C.toList.take o) ((C.toList.drop o).take vs.length) (C.toList.drop (o + vs.length)) w (by simp; omega) (by
    rw [h, ← List.drop_drop, List.take_append_drop, List.take_append_drop])
  rw [hp] at this
  exact this
/-- A bit's two parts, written one behind the other. -/
theorem pair_over (D P G : List UInt8) (n b d : Nat) (hD : D.length = n) (hP : P.length = 32) (hG : G.length = 32) (hn : n + 64 ≤ 2048) (hb : b = 0 ∧ d = 1 ∨ b = 1 ∧ d = 0) :
    over (over (rowP D) (n + b * 32) (P.map bv)) (n + d * 32) (G.map bv) = rowP (D ++ if b = 1 then G ++ P else P ++ G) := by
  subst hD
  obtain ⟨r, hr⟩ : ∃ r, 2048 - D.length = 32 + (32 + r) := ⟨2048 - D.length - 64, by omega⟩
  have e0 : (rowP D).toList = D.map bv ++ (List.replicate 32 (Value.int .u8 0) ++ (List.replicate 32 (Value.int .u8 0) ++ List.replicate r (Value.int .u8 0))) := by
    unfold rowP
    rw [hr, ← List.replicate_append_replicate, ← List.replicate_append_replicate]
  have f : ∀ (a x y : List Value) (k : Nat), a.length = k → (a ++ (x ++ y)).take k = a ∧ (a ++ (x ++ y)).drop (k + x.length) = y := fun a x y k hk => by
    subst hk
    exact ⟨by simp, by rw [← List.append_assoc, List.drop_left' (by simp)]⟩
  have hE : rowP (D ++ if b = 1 then G ++ P else P ++ G) = (D.map bv ++ ((if b = 1 then G.map bv ++ P.map bv else P.map bv ++ G.map bv) ++ List.replicate r (Value.int .u8 0))).toArray := by
    unfold rowP
    have : (if b = 1 then G ++ P else P ++ G).length = 64 := by split <;> simp [hP, hG]
    rw [List.length_append, this, show 2048 - (D.length + 64) = r by omega]
    split <;> simp
  rw [hE]
  rcases hb with ⟨rfl, rfl⟩ | ⟨rfl, rfl⟩
  · obtain ⟨t1, t2⟩ := f (D.map bv) (List.replicate 32 (Value.int .u8 0)) (List.replicate 32 (Value.int .u8 0) ++ List.replicate r (Value.int .u8 0)) (D.length + 0 * 32) (by simp)
    rw [List.length_replicate] at t2
    obtain ⟨t3, t4⟩ := f (D.map bv ++ P.map bv) (List.replicate 32 (Value.int .u8 0)) (List.replicate r (Value.int .u8 0)) (D.length + 1 * 32) (by simp [hP])
    rw [List.length_replicate, List.append_assoc] at t4
    rw [List.append_assoc] at t3
    unfold over
    rw [e0, t1, List.length_map, hP, t2, List.length_map, hG]
    simp only
    rw [t3, t4]
    simp
  · obtain ⟨t1, t2⟩ := f (D.map bv ++ List.replicate 32 (Value.int .u8 0)) (List.replicate 32 (Value.int .u8 0)) (List.replicate r (Value.int .u8 0)) (D.length + 1 * 32) (by simp)
    rw [List.length_replicate, List.append_assoc] at t2
    rw [List.append_assoc] at t1
    obtain ⟨t3, t4⟩ := f (D.map bv) (List.replicate 32 (Value.int .u8 0)) (P.map bv ++ List.replicate r (Value.int .u8 0)) (D.length + 0 * 32) (by simp)
    rw [List.length_replicate] at t4
    unfold over
    rw [e0, t1, List.length_map, hP, t2, List.length_map, hG]
    simp only
    rw [List.append_assoc, t3, t4]
    simp

/-- What is known of some blocks. -/
def Kn (w : World) (bs : List (Nat × Obj)) (wz : World) : Prop := w.grownBy wz none ∧ ∀ p ∈ bs, wz.heap[p.1]? = some p.2
section
variable {w wz wy : World} {bs : List (Nat × Obj)}
theorem Kn.kept (h : Kn w bs wz) (hg : wz.grownBy wy none) : Kn w bs wy := ⟨grown_same h.1 hg, fun p hp => keep_of (h.2 p hp) hg⟩
theorem Kn.set (h : Kn w bs wz) {b : Nat} (h0 : w.heap.size ≤ b) (hne : ∀ p ∈ bs, p.1 ≠ b) (o : Nat) (vs : List Value) : Kn w bs (wz.setCells b o vs) :=
  ⟨grown_setCells (.inr h0) vs o _ h.1, fun p hp => (other_setCells (hne p hp) vs o wz).trans (h.2 p hp)⟩
theorem Kn.get (h : Kn w bs wz) (i : Nat) {p : Nat × Obj} (hi : bs[i]? = some p) : wz.heap[p.1]? = some p.2 := h.2 p (List.mem_of_getElem? hi)
end
/-- A part of a row of parts. -/
theorem range_part {w : World} {g : Nat} {f : Nat → List UInt8} (hf : ∀ i, (f i).length = 32) {n k : Nat} (h : RdB w (some ⟨g, 0, none⟩) (partsF f n)) (hk : k < n) : w.rangeAt g (k * 32) ((f k).map bv) := by
  intro j v hv
  rcases h with e | ⟨ad, e, hc⟩
  · have := congrArg List.length e
    rw [List.length_map, partsF_len f hf] at this
    simp at this; omega
  · injection e with e
    subst e
    have hj : j < 32 := by
      have := (List.getElem?_eq_some_iff.1 hv).1
      rwa [List.length_map, hf] at this
    have := hc (k * 32 + j) v (by
      have h2 : ∀ m, k < m → (partsF f m)[k * 32 + j]? = (f k)[j]? := by
        intro m
        induction m with
        | zero => intro h; omega
        | succ m ih =>
          intro h
          rw [partsF_next]
          have hl := partsF_len f hf m
          by_cases hm : k < m
          · rw [List.getElem?_append_left (by omega), ih hm]
          · have : k = m := by omega
            subst this
            rw [List.getElem?_append_right (by omega), hl, Nat.add_sub_cancel_left]
      rw [List.getElem?_map, h2 n hk, ← List.getElem?_map]; exact hv)
    rwa [Addr.add_mid, Nat.zero_add] at this
/-- Two results: a row's variable and a slot. -/
theorem results_row_tmp {P : Program} {fn : Func} {p u : Tmp} {ty : TypeId} (h : fn.results = #[.cell p ty, .tmp u]) (tmps : Array Value) (w : World) (g : Nat) (t : TypeId) (cs : Array Value) (fr : Nat × Nat) (d : TypeDesc)
    (hp : tmps.getD p undef = .pointer (some ⟨g, 0, none⟩)) (hg : w.heap[g]? = some (.cells cs t fr))
    (hu : P.underlying ty = some d) (hd : (match d with | .struct _ | .array _ _ => true | _ => false) = true) (hi : (P.info? ty).map (·.size) = some cs.size) :
    (results fn tmps).run P w = .ok (.tuple #[.agg cs, tmps.getD u undef]) w := by
  rw [results_cell_tmp h, hp]
  simp [asAddr, run_loadVar_row w g t ty cs fr d hg hu hd hi]
end Go.Proofs.YtpeepiboocdnaaaDoor

namespace Go.Proofs.YtpeepiboocdnaaaDoor
open Go.RowKit

/-- The two parts of a bit that a signature tells. -/
def whoPair (m : List UInt8) (f g : Nat → List UInt8) (i : Nat) : List UInt8 := if bitL m i = 1 then g i ++ publicL (f i) else publicL (f i) ++ g i
/-- Whose a signature of these parts is. -/
def whoF (m : List UInt8) (f g : Nat → List UInt8) : List UInt8 := tagL 107 (partsF (whoPair m f g) 32)
theorem publicL_len (s : List UInt8) : (publicL s).length = 32 := tagL_len _ _
theorem whoPair_len (m : List UInt8) (f g : Nat → List UInt8) (hg : ∀ i, (g i).length = 32) (i : Nat) : (whoPair m f g i).length = 64 := by
  unfold whoPair
  split <;> rw [List.length_append, publicL_len, hg]
theorem partsF_len64 (f : Nat → List UInt8) (hf : ∀ i, (f i).length = 64) : ∀ n, (partsF f n).length = n * 64
  | 0 => rfl
  | n + 1 => by rw [partsF_next, List.length_append, hf, partsF_len64 f hf n]; omega
theorem whoF_len (m : List UInt8) (f g : Nat → List UInt8) : (whoF m f g).length = 32 := tagL_len _ _

end Go.Proofs.YtpeepiboocdnaaaDoor

namespace Go.Proofs.YtpeepiboocdnaaaDoor
open Go.RowKit

theorem wpList_wanted {P : Program} {ops : Array Oper} {rest : List Oper} {o : Oper} {a : Act} {w : World} {Q : Exit → Act → World → Prop} (hw : Region.wanted o (yielded ops a.tmps) = true)
    (h : ∀ K : Act → World → Prop, (∀ a w, wpList P ops Q rest a w → K a w) → o.wp P a w K Q) : wpList P ops Q (o :: rest) a w :=
  wpList_step fun K hK => by simp only [hw, if_true]; exact h K hK
theorem wpList_load_row_g {P : Program} {ops : Array Oper} {rest : List Oper} {o : Oper} {a : Act} {w : World} {Q : Exit → Act → World → Prop} (hw : Region.wanted o (yielded ops a.tmps) = true) (ty : TypeId) (x : Operand) (ho : o.op = .load ty x)
    (g : Nat) (hx : a.eval x = .pointer (some ⟨g, 0, none⟩)) (t : TypeId) (cs : Array Value) (fr : Nat × Nat) (d : TypeDesc) (hg : w.heap[g]? = some (.cells cs t fr))
    (hu : P.underlying ty = some d) (hd : (match d with | .struct _ | .array _ _ => true | _ => false) = true) (hi : (P.info? ty).map (·.size) = some cs.size)
    (h : wpList P ops Q rest (a.put o.dst (.agg cs)) w) : wpList P ops Q (o :: rest) a w :=
  wpList_wanted hw fun _ hK => wp_load_row ty x ho g hx t cs fr d hg hu hd hi (hK _ _ h)

def zeroH : List UInt8 := List.replicate 32 0
theorem zeroH_len : zeroH.length = 32 := rfl
theorem rowZ : rowH [] = (zeroH.map bv).toArray := by simp [rowH, zeroH, bv]

/-! ## As lists -/
theorem partsF_congr (f g : Nat → List UInt8) : ∀ n, (∀ i, i < n → f i = g i) → partsF f n = partsF g n
  | 0, _ => rfl
  | n + 1, h => by rw [partsF_next, partsF_next, partsF_congr f g n fun i hi => h i (by omega), h n (by omega)]
theorem whoF_congr {m n : List UInt8} {f g f' g' : Nat → List UInt8} (h : ∀ i, i < 32 → bitL m i = bitL n i ∧ f i = f' i ∧ g i = g' i) : whoF m f g = whoF n f' g' := by
  unfold whoF
  rw [partsF_congr _ _ 32 fun i hi => by unfold whoPair; rw [(h i hi).1, (h i hi).2.1, (h i hi).2.2]]
  rfl
theorem flat_flatMap (F : Nat → List (List UInt8)) (l : List Nat) : (l.flatMap F).flatten = (l.map fun i => (F i).flatten).flatten := by
  induction l with
  | nil => rfl
  | cons x l ih => rw [List.flatMap_cons, List.flatten_append, ih, List.map_cons, List.flatten_cons]
theorem whoF_list (n : List UInt8) (f g : Nat → List UInt8) : whoL n ((List.range 32).map f) ((List.range 32).map g) = whoF n f g := by
  unfold whoL keyOf whoParts whoF
  rw [flat_flatMap]
  unfold partsF
  congr 2
  refine List.map_congr_left fun i hi => ?_
  have hi' : i < 32 := by simpa using hi
  rw [range_getD _ _ _ _ hi', range_getD _ _ _ _ hi']
  unfold whoPair
  split <;> simp
theorem whoF_sign (s m : List UInt8) : whoF m (openF s m) (shutF s m) = keyL s := by
  rw [← whoF_list, ← who_sign s m]; exact Eq.refl _
theorem other5F : whoF [98] (openF seed5 [97]) (shutF seed5 [97]) ≠ keyL seed5 := by
  rw [← whoF_list]; exact other5
end Go.Proofs.YtpeepiboocdnaaaDoor
