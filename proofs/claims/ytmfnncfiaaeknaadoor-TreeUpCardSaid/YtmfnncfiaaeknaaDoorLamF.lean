/- Whose a signature is; the program's own. -/
import Derived.Test.YtmfnncfiaaeknaaDoorLamE
import Derived.Laws.ResultCell
namespace Go.Proofs.YtmfnncfiaaeknaaDoor
open Go.RowKit

/-- A row with other cells from o on. -/
def over (C : Array Value) (o : Nat) (vs : List Value) : Array Value := (C.toList.take o ++ (vs ++ C.toList.drop (o + vs.length))).toArray
theorem over_size (C : Array Value) (o : Nat) (vs : List Value) (h : o + vs.length ≤ C.size) : (over C o vs).size = C.size := by simp [over]; omega
theorem heap_over {w : World} {b o : Nat} {t : TypeId} {C : Array Value} {vs : List Value} (h : w.heap[b]? = some (.cells C t (0, 0))) (ho : o + vs.length ≤ C.size) : (w.setCells b o vs).heap[b]? = some (.cells (over C o vs) t (0, 0)) := by
  have hp : (C.toList.take o).length = o := by simp; omega
  have := heap_setCells (b := b) (t := t) vs (C.toList.take o) ((C.toList.drop o).take vs.length) (C.toList.drop (o + vs.length)) w (by simp; omega) (by
    rw [h, ← List.drop_drop, List.take_append_drop, List.take_append_drop])
  rw [hp] at this
  exact this
/-- A bit's two parts, written one behind the other. -/
theorem pair_over (D P G : List UInt8) (n b d : Nat) (hD : D.length = n) (hP : P.length = 32) (hG : G.length = 32) (hn : n + 64 ≤ 2048) (hb : b = 0 ∧ d = 1 ∨ b = 1 ∧ d = 0) :
    over (over (rowP D) (n + b * 32) (P.map bv)) (n + d * 32) (G.map bv) = rowP (D ++ if b = 1 then G ++ P else P ++ G) := by
  subst hD
  obtain ⟨r, hr⟩ : ∃ r, 2048 - D.length = 32 + (32 + r) := ⟨2048 - D.length - 64, by omega⟩
  have e0 : (rowP D).toList = D.map bv ++ (List.replicate 32 (Value.int .u8 0) ++ (List.replicate 32 (Value.int .u8 0) ++ List.replicate r (Value.int .u8 0))) := by
    unfold rowP
    rw [hr, ← List.replicate_append_replicate, ← List.replicate_append_replicate]
  have f : ∀ (a x y : List Value) (k : Nat), a.length = k → (a ++ (x ++ y)).take k = a ∧ (a ++ (x ++ y)).drop (k + x.length) = y := fun a x y k hk => by
    subst hk
    exact ⟨by simp, by rw [← List.append_assoc, List.drop_left' (by simp)]⟩
  have hE : rowP (D ++ if b = 1 then G ++ P else P ++ G) = (D.map bv ++ ((if b = 1 then G.map bv ++ P.map bv else P.map bv ++ G.map bv) ++ List.replicate r (Value.int .u8 0))).toArray := by
    unfold rowP
    have : (if b = 1 then G ++ P else P ++ G).length = 64 := by split <;> simp [hP, hG]
    rw [List.length_append, this, show 2048 - (D.length + 64) = r by omega]
    split <;> simp
  rw [hE]
  rcases hb with ⟨rfl, rfl⟩ | ⟨rfl, rfl⟩
  · obtain ⟨t1, t2⟩ := f (D.map bv) (List.replicate 32 (Value.int .u8 0)) (List.replicate 32 (Value.int .u8 0) ++ List.replicate r (Value.int .u8 0)) (D.length + 0 * 32) (by simp)
    rw [List.length_replicate] at t2
    obtain ⟨t3, t4⟩ := f (D.map bv ++ P.map bv) (List.replicate 32 (Value.int .u8 0)) (List.replicate r (Value.int .u8 0)) (D.length + 1 * 32) (by simp [hP])
    rw [List.length_replicate, List.append_assoc] at t4
    rw [List.append_assoc] at t3
    unfold over
    rw [e0, t1, List.length_map, hP, t2, List.length_map, hG]
    simp only
    rw [t3, t4]
    simp
  · obtain ⟨t1, t2⟩ := f (D.map bv ++ List.replicate 32 (Value.int .u8 0)) (List.replicate 32 (Value.int .u8 0)) (List.replicate r (Value.int .u8 0)) (D.length + 1 * 32) (by simp)
    rw [List.length_replicate, List.append_assoc] at t2
    rw [List.append_assoc] at t1
    obtain ⟨t3, t4⟩ := f (D.map bv) (List.replicate 32 (Value.int .u8 0)) (P.map bv ++ List.replicate r (Value.int .u8 0)) (D.length + 0 * 32) (by simp)
    rw [List.length_replicate] at t4
    unfold over
    rw [e0, t1, List.length_map, hP, t2, List.length_map, hG]
    simp only
    rw [List.append_assoc, t3, t4]
    simp

/-- What is known of some blocks. -/
def Kn (w : World) (bs : List (Nat × Obj)) (wz : World) : Prop := w.grownBy wz none ∧ ∀ p ∈ bs, wz.heap[p.1]? = some p.2
section
variable {w wz wy : World} {bs : List (Nat × Obj)}
theorem Kn.kept (h : Kn w bs wz) (hg : wz.grownBy wy none) : Kn w bs wy := ⟨grown_same h.1 hg, fun p hp => keep_of (h.2 p hp) hg⟩
theorem Kn.set (h : Kn w bs wz) {b : Nat} (h0 : w.heap.size ≤ b) (hne : ∀ p ∈ bs, p.1 ≠ b) (o : Nat) (vs : List Value) : Kn w bs (wz.setCells b o vs) :=
  ⟨grown_setCells (.inr h0) vs o _ h.1, fun p hp => (other_setCells (hne p hp) vs o wz).trans (h.2 p hp)⟩
theorem Kn.get (h : Kn w bs wz) (i : Nat) {p : Nat × Obj} (hi : bs[i]? = some p) : wz.heap[p.1]? = some p.2 := h.2 p (List.mem_of_getElem? hi)
end
/-- A part of a row of parts. -/
theorem range_part {w : World} {g : Nat} {f : Nat → List UInt8} (hf : ∀ i, (f i).length = 32) {n k : Nat} (h : RdB w (some ⟨g, 0, none⟩) (partsF f n)) (hk : k < n) : w.rangeAt g (k * 32) ((f k).map bv) := by
  intro j v hv
  rcases h with e | ⟨ad, e, hc⟩
  · have := congrArg List.length e
    rw [List.length_map, partsF_len f hf] at this
    simp at this; omega
  · injection e with e
    subst e
    have hj : j < 32 := by
      have := (List.getElem?_eq_some_iff.1 hv).1
      rwa [List.length_map, hf] at this
    have := hc (k * 32 + j) v (by
      have h2 : ∀ m, k < m → (partsF f m)[k * 32 + j]? = (f k)[j]? := by
        intro m
        induction m with
        | zero => intro h; omega
        | succ m ih =>
          intro h
          rw [partsF_next]
          have hl := partsF_len f hf m
          by_cases hm : k < m
          · rw [List.getElem?_append_left (by omega), ih hm]
          · have : k = m := by omega
            subst this
            rw [List.getElem?_append_right (by omega), hl, Nat.add_sub_cancel_left]
      rw [List.getElem?_map, h2 n hk, ← List.getElem?_map]; exact hv)
    rwa [Addr.add_mid, Nat.zero_add] at this
/-- Two results: a row's variable and a slot. -/
theorem results_row_tmp {P : Program} {fn : Func} {p u : Tmp} {ty : TypeId} (h : fn.results = #[.cell p ty, .tmp u]) (tmps : Array Value) (w : World) (g : Nat) (t : TypeId) (cs : Array Value) (fr : Nat × Nat) (d : TypeDesc)
    (hp : tmps.getD p undef = .pointer (some ⟨g, 0, none⟩)) (hg : w.heap[g]? = some (.cells cs t fr))
    (hu : P.underlying ty = some d) (hd : (match d with | .struct _ | .array _ _ => true | _ => false) = true) (hi : (P.info? ty).map (·.size) = some cs.size) :
    (results fn tmps).run P w = .ok (.tuple #[.agg cs, tmps.getD u undef]) w := by
  rw [results_cell_tmp h, hp]
  simp [asAddr, run_loadVar_row w g t ty cs fr d hg hu hd hi]
end Go.Proofs.YtmfnncfiaaeknaaDoor
