/- Small laws for turned signatures: bits of a byte turned, rows of parts, operations left out. -/
import Derived.Test.YtmfnncfiaaeknaaDoorLamK
import Derived.Test.YtmfnncfiaaeknaaDoorRegC
namespace Go.Proofs.YtmfnncfiaaeknaaDoor
open Go.RowKit
theorem quo8 (j : Nat) (h : j ≤ 255) (w : World) : (binOp .quo 3 (.int .i64 (j : Int)) (.int .i64 8)).run Tryd.prog w = .ok (.int .i64 ((j / 8 : Nat) : Int)) w := by
  simp [binOp, Op.intDiv]
  rw [show ((j : Int) / 8) = ((j / 8 : Nat) : Int) by omega]
  have : j / 8 ≤ 255 := by omega
  generalize j / 8 = q at this
  exact IntWalk.i64_in _ ⟨by omega, by omega⟩
theorem rem8 (j : Nat) (w : World) : (binOp .rem 3 (.int .i64 (j : Int)) (.int .i64 8)).run Tryd.prog w = .ok (.int .i64 ((j % 8 : Nat) : Int)) w := by
  simp [binOp, Op.intDiv]
  rw [Int.tmod_eq_emod_of_nonneg (by omega)]
theorem conv8 (j : Nat) (h : j < 8) (w : World) : (convert 3 32 (.int .i64 (j : Int))).run Tryd.prog w = .ok (.int .u64 (j : Int)) w :=
  match j, h with
  | 0, _ => by kernel_rfl
  | 1, _ => by kernel_rfl
  | 2, _ => by kernel_rfl
  | 3, _ => by kernel_rfl
  | 4, _ => by kernel_rfl
  | 5, _ => by kernel_rfl
  | 6, _ => by kernel_rfl
  | 7, _ => by kernel_rfl
  | _ + 8, h => by omega
theorem shl8 (j : Nat) (h : j < 8) (w : World) : (binOp .shl 5 (.int .u8 1) (.int .u64 (j : Int))).run Tryd.prog w = .ok (.int .u8 ((2 ^ j : Nat) : Int)) w :=
  match j, h with
  | 0, _ => by kernel_rfl
  | 1, _ => by kernel_rfl
  | 2, _ => by kernel_rfl
  | 3, _ => by kernel_rfl
  | 4, _ => by kernel_rfl
  | 5, _ => by kernel_rfl
  | 6, _ => by kernel_rfl
  | 7, _ => by kernel_rfl
  | _ + 8, h => by omega
theorem xor8 (x : UInt8) (y : Nat) (w : World) : (binOp .xor 5 (bv x) (.int .u8 (y : Int))).run Tryd.prog w = .ok (bv (x ^^^ UInt8.ofNat y)) w := by
  simp [binOp, bv, Op.intBits]
  have h1 : x.toNat % 256 = x.toNat := Nat.mod_eq_of_lt x.toNat_lt
  have h2 : x.toNat ^^^ y % 256 < 2 ^ 8 := Nat.xor_lt_two_pow x.toNat_lt (Nat.mod_lt _ (by decide))
  show IntKind.u8.wrap (↑(x.toNat % 256 ^^^ y % 256) : Int) = _
  rw [h1]
  exact IntWalk.u8_in _ ⟨by omega, by omega⟩
theorem idx8 (g o k : Nat) (hk : k < 32) (w : World) : (Instr.indexAt 23 (.pointer (some ⟨g, o, none⟩)) (.int .i64 (k : Int))).run Tryd.prog w = .ok (.pointer (some ⟨g, o + k, none⟩)) w := by
  simp [Instr.indexAt, asIntOf, Instr.sureAddr, Addr.add]
  rw [if_pos hk]
  by_cases h : k = 0
  · rw [if_pos h, h]; rfl
  · rw [if_neg h]
theorem cell_of_take {cu : Array Value} {l : List UInt8} {n o : Nat} (h : cu.toList.take n = l.map bv) (hl : l.length = n) (ho : o < n) : ∃ z, cu[o]? = some (bv z) := by
  have h1 : (cu.toList.take n)[o]? = (l.map bv)[o]? := by rw [h]
  have hlo : o < l.length := by omega
  have h2 : l[o]? = some l[o] := List.getElem?_eq_getElem hlo
  rw [List.getElem?_take_of_lt ho, List.getElem?_map, h2] at h1
  exact ⟨l[o], by rw [← Array.getElem?_toList]; exact h1⟩
theorem set_take {cu : Array Value} {l : List UInt8} {n : Nat} (h : cu.toList.take n = l.map bv) (o : Nat) (z : UInt8) : (cu.setIfInBounds o (bv z)).toList.take n = (l.set o z).map bv := by
  rw [Array.toList_setIfInBounds, List.take_set, h, List.map_set]
theorem parts_upto (l : List UInt8) (h : l.length = 32 * 32) : ∀ n, n ≤ 32 → partsF (fun i => if i < 32 then (l.drop (i * 32)).take 32 else zeroH) n = l.take (n * 32)
  | 0, _ => by simp [partsF]
  | n + 1, hn => by
    rw [partsF_next, parts_upto l h n (by omega), if_pos (by omega), Nat.add_mul, List.take_add, Nat.one_mul]
theorem parts_of (l : List UInt8) (h : l.length = 32 * 32) : ∃ f : Nat → List UInt8, (∀ i, (f i).length = 32) ∧ l = partsF f 32 := by
  refine ⟨fun i => if i < 32 then (l.drop (i * 32)).take 32 else zeroH, fun i => ?_, ?_⟩
  · show (if i < 32 then (l.drop (i * 32)).take 32 else zeroH).length = 32
    split
    · rw [List.length_take, List.length_drop]; omega
    · exact zeroH_len
  · rw [parts_upto l h 32 (Nat.le_refl _), List.take_of_length_le (by omega)]
theorem rd_of_row {w : World} {g c n : Nat} {cur : Array Value} {l : List UInt8} (hg : w.heap[g]? = some (.cells cur 23 (0, 0))) (h2 : n ≤ c) (h3 : c ≤ maxLen) (h4 : cur.size = c * 32) (h5 : cur.toList.take (n * 32) = l.map bv) (hl : l.length = n * 32) : RdB w (some ⟨g, 0, none⟩) l :=
  RdAt.ofOwn (base := 0) (size := 32) (n := n) (c := c) (e := 23) ⟨by simpa using hl, .inr ⟨g, c, cur, rfl, Nat.zero_le _, hg, h2, h3, h4, h5⟩⟩
theorem unwanted_false {ops : Array Oper} {o : Oper} {a : Act} {j s : Nat} (hg : o.guard = some (j, false)) (hd : (ops[j]?).bind (·.dst) = some s) (hv : a.eval (.tmp s) = .bool true) : Region.wanted o (yielded ops a.tmps) = false := by
  have h : a.tmps.getD s undef = .bool true := hv
  have h' : a.tmps[s]? = some (.bool true) := by
    by_cases hs : s < a.tmps.size
    · simp [Array.getD, hs] at h
      rw [Array.getElem?_eq_getElem hs, h]
    · simp [Array.getD, hs] at h
      cases h
  simp [Region.wanted, hg, yielded, hd, h']
theorem OwnHs.row {w : World} {g c n : Nat} {l : List UInt8} (h : OwnHs w (.slice (some ⟨g, 0, none⟩) n c) l n) : ∃ cur, w.heap[g]? = some (.cells cur 23 (0, 0)) ∧ n ≤ c ∧ c ≤ maxLen ∧ cur.size = c * 32 ∧ cur.toList.take (n * 32) = l.map bv := by
  obtain ⟨base, hb, hl, h⟩ := h
  rcases h with ⟨h, _⟩ | ⟨g', cap, cur, e, h1, hg, h2, h3, h4, h5⟩
  · cases h
  · cases e
    exact ⟨cur, hg, h2, h3, h4, h5⟩
def OwnTwo (P Q : List UInt8) (v : Value) (w : World) : Prop := ∃ g c g' c' : Nat, v = .agg #[.slice (some ⟨g, 0, none⟩) 32 c, .slice (some ⟨g', 0, none⟩) 32 c'] ∧ g ≠ g' ∧ OwnHs w (.slice (some ⟨g, 0, none⟩) 32 c) P 32 ∧ OwnHs w (.slice (some ⟨g', 0, none⟩) 32 c') Q 32
theorem LastsB.ownTwo {al : Nat → Bool} {k : Nat} (ha : al k = false) (P Q : List UInt8) : LastsB al k (OwnTwo P Q) := by
  rintro v w w' row ⟨g, c, g', c', rfl, hn, h, h'⟩ hg hne
  have hb : ∀ x ∈ [g, g'], some x ≠ row := fun x hx => hne x (by simp only [bl, ha, cond_false]; exact hx)
  exact ⟨g, c, g', c', rfl, hn, h.keep hg (.inr (hb g (by simp))), h'.keep hg (.inr (hb g' (by simp)))⟩
end Go.Proofs.YtmfnncfiaaeknaaDoor
