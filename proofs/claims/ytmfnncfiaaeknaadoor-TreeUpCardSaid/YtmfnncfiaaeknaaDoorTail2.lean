/- What an argument is: a byte; a list of lists of bytes. -/
import Derived.Test.YtmfnncfiaaeknaaDoorTail
import Derived.Test.YtmfnncfiaaeknaaDoorTag
import Derived.LaidMore
namespace Go.Proofs.YtmfnncfiaaeknaaDoor
open Go.ChangeShapes Go.WideShapes Go.ChangeAt Go.WideMaps Go.WideElems Go.RowKit

section
variable {H : Type} {enc : TypeId × Value → H} {P : Program} {W : World} {base : Nat} {v : Value} {d : DataW H} {p : List MemPlace}

theorem arg_byte {t : TypeId} (ht : P.underlying t = some (.int .u8)) (hv : Value.okWide P W .any base t v) (hd : DataW.Trod enc P W 0 (fun _ => true) true t v d p) :
    ∃ x : UInt8, v = .int .u8 (x.toNat : Int) := by
  obtain ⟨n, rfl, _, _, hw⟩ := open_int ht hv hd
  obtain ⟨h0, h1⟩ := bounds_u8 hw
  refine ⟨UInt8.ofNat n.toNat, ?_⟩
  rw [UInt8.toNat_ofNat', show (n.toNat % 2 ^ 8 : Nat) = n.toNat by omega, Int.toNat_of_nonneg h0]

theorem arg_bool {t : TypeId} (ht : P.underlying t = some .bool) (hv : Value.okWide P W .any base t v) (hd : DataW.Trod enc P W 0 (fun _ => true) true t v d p) :
    ∃ b : Bool, v = .bool b := by
  obtain ⟨b, rfl, _⟩ := open_bool ht hv hd
  exact ⟨b, rfl⟩

theorem trod_bytes {t e : TypeId} {fuel : Nat} {v : Value} {x : DataW H × List MemPlace} (ht : P.underlying t = some (.slice e)) (he : P.underlying e = some (.int .u8)) (hc : P.cellsOf e = 1)
    (hf : DataW.trod enc P W 0 (fun _ => true) true fuel t [v] = some x) :
    ∃ q : Part, v = pv q ∧ q.2.1.length ≤ q.2.2 ∧ q.2.2 ≤ maxLen ∧ RdB W q.1 q.2.1 := by
  rcases open_ints ht he hc hf with ⟨hcs, _⟩ | ⟨a, len, cap, zs, hcs, _, hl, hm, hz, _, hcell, hwz⟩
  · simp at hcs
    subst hcs
    exact ⟨(none, [], 0), rfl, Nat.le_refl _, Nat.zero_le _, RdAt.nil⟩
  · simp at hcs
    subst hcs
    simp only [if_true] at hz
    have hcl : ∀ i (hi : i < zs.length), W.cell? (a.add i) = some (.int .u8 zs[i]) := fun i hi => by
      have := hcell i hi
      rwa [show zs.getD i 0 = zs[i] from by simp [List.getD, hi]] at this
    have hall : ∀ v ∈ (zs.take len).map (Value.int .u8), ∃ n : Int, v = .int .u8 n ∧ 0 ≤ n ∧ n ≤ 255 := by
      intro v hv
      simp only [List.mem_map] at hv
      obtain ⟨n, hn, rfl⟩ := hv
      exact ⟨n, rfl, bounds_u8 (hwz n (List.mem_of_mem_take hn))⟩
    obtain ⟨l, hl'⟩ := bytes_of _ hall
    have hll : l.length = len := by
      have := congrArg List.length hl'
      simp only [List.length_map, List.length_take] at this
      omega
    refine ⟨(some a, l, cap), by simp only [pv, hll], by simp only [hll]; exact hl, hm, .inr ⟨a, rfl, fun j u hu => ?_⟩⟩
    simp only at hu
    rw [← hl'] at hu
    simp only [List.getElem?_map, Option.map_eq_some_iff] at hu
    obtain ⟨n, hn, rfl⟩ := hu
    rw [List.getElem?_take] at hn
    split at hn
    · obtain ⟨hj, rfl⟩ := List.getElem?_eq_some_iff.1 hn
      exact hcl j hj
    · cases hn

theorem list_of {α : Type} {Q : Nat → α → Prop} : ∀ n, (∀ i, i < n → ∃ x, Q i x) → ∃ xs : List α, xs.length = n ∧ ∀ i (h : i < xs.length), Q i xs[i]
  | 0, _ => ⟨[], rfl, fun i h => absurd h (by simp)⟩
  | n + 1, h => by
    obtain ⟨xs, hl, hx⟩ := list_of n fun i hi => h i (by omega)
    obtain ⟨y, hy⟩ := h n (by omega)
    refine ⟨xs ++ [y], by simp [hl], fun i hi => ?_⟩
    by_cases hin : i < xs.length
    · rw [List.getElem_append_left hin]; exact hx i hin
    · have : i = n := by rw [List.length_append, List.length_singleton] at hi; omega
      subst this
      rw [List.getElem_append_right (by omega)]
      simpa using hy

theorem arg_lists {t e b : TypeId} (ht : P.underlying t = some (.slice e)) (he : P.underlying e = some (.slice b)) (hb : P.underlying b = some (.int .u8)) (hce : P.cellsOf e = 1) (hcb : P.cellsOf b = 1)
    (hv : Value.okWide P W .any base t v) (hd : DataW.Trod enc P W 0 (fun _ => true) true t v d p) :
    ∃ (A : Option Addr) (ps : List Part) (c : Nat), v = .slice A ps.length c ∧ ps.length ≤ c ∧ c ≤ maxLen ∧ RdP W A ps ∧ ∀ q ∈ ps, q.2.1.length ≤ q.2.2 ∧ q.2.2 ≤ maxLen := by
  obtain ⟨a0, len, cap, rfl⟩ := okWide_slice ht hv
  obtain ⟨fuel, hf⟩ := hd
  rcases DataW.trod_slice ht hf with ⟨hcs, _⟩ | ⟨a, len', cap', elems, rest, n, _, hcs, hx, _, hl, hm, hlen, hel, _⟩
  · simp [Value.cells] at hcs
    obtain ⟨rfl, rfl, rfl⟩ := hcs
    exact ⟨none, [], 0, rfl, Nat.le_refl _, Nat.zero_le _, ⟨RdAt.nil, by simp⟩, by simp⟩
  · simp [Value.cells] at hcs
    obtain ⟨rfl, rfl, rfl⟩ := hcs
    have hq : ∀ i, i < len → ∃ q : Part, W.cell? (a.add i) = some (pv q) ∧ q.2.1.length ≤ q.2.2 ∧ q.2.2 ≤ maxLen ∧ RdB W q.1 q.2.1 := by
      intro i hi
      have hE := hel i hi
      rw [hce, Nat.mul_one] at hE
      rw [List.getElem?_eq_getElem (by omega)] at hE
      simp only [Option.bind_eq_some_iff] at hE
      obtain ⟨c1, hc1, hy1⟩ := hE
      have e0 : (a.add i).add 0 = a.add i := by simp [Addr.add]
      have hc : ∃ c, c1 = [c] ∧ W.cell? (a.add i) = some c := by
        unfold World.cells? at hc1
        split at hc1
        · simp only [List.range_succ, List.range_zero, List.nil_append, List.mapM_cons, List.mapM_nil, e0] at hc1
          cases hcc : W.cell? (a.add i) with
          | none => simp [hcc] at hc1
          | some c => simp [hcc] at hc1; exact ⟨c, hc1.symm, rfl⟩
        · cases hc1
      obtain ⟨c, rfl, hcell⟩ := hc
      obtain ⟨q, rfl, h1, h2, h3⟩ := trod_bytes he hb hcb hy1
      exact ⟨q, hcell, h1, h2, h3⟩
    obtain ⟨ps, hpl, hps⟩ := list_of len hq
    refine ⟨some a, ps, cap, by rw [hpl], by omega, hm, ⟨.inr ⟨a, rfl, fun j u hu => ?_⟩, fun q hq' => ?_⟩, fun q hq' => ?_⟩
    · simp only [List.getElem?_map, Option.map_eq_some_iff] at hu
      obtain ⟨q, hq', rfl⟩ := hu
      obtain ⟨hj, rfl⟩ := List.getElem?_eq_some_iff.1 hq'
      exact (hps j hj).1
    · obtain ⟨j, hj, rfl⟩ := List.getElem_of_mem hq'
      exact (hps j hj).2.2.2
    · obtain ⟨j, hj, rfl⟩ := List.getElem_of_mem hq'
      exact ⟨(hps j hj).2.1, (hps j hj).2.2.1⟩
end
end Go.Proofs.YtmfnncfiaaeknaaDoor
