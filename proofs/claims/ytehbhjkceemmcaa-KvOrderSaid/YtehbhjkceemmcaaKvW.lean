/- A row of pairs that came in. -/
import Derived.Test.YtehbhjkceemmcaaKvA
import Derived.Test.YtehbhjkceemmcaaKC
namespace Go.Proofs.Ytehbhjkceemmcaa
open Go.ChangeShapes Go.WideShapes Go.ChangeAt Go.RowKit
open Go.WideMaps Go.WideElems
open Go.ChangeMaps (open_string)

section
variable {H : Type} {enc : TypeId × Value → H} {P : Program} {W : World} {base : Nat} {v : Value} {d : DataW H} {p : List MemPlace}
theorem arg_pairs {t e : TypeId} {f0 f1 : Field} (ht : P.underlying t = some (.slice e)) (he : P.underlying e = some (.struct #[f0, f1])) (ce : P.cellsOf e = 2) (o0 : f0.offset = 0) (o1 : f1.offset = 1) (c0 : P.cellsOf f0.type = 1) (c1 : P.cellsOf f1.type = 1)
    (s0 : P.underlying f0.type = some .string) (s1 : P.underlying f1.type = some .string)
    (hv : Value.okWide P W .any base t v) (hd : DataW.Trod enc P W 0 (fun _ => true) true t v d p) :
    ∃ (A : Option Addr) (l : List Kv) (c : Nat), v = .slice A l.length c ∧ l.length ≤ c ∧ RdQ W A l := by
  obtain ⟨a0, len, cap, rfl⟩ := okWide_slice ht hv
  obtain ⟨fuel, hf⟩ := hd
  rcases Go.Deep.open_slice_pairs ht he ce o0 o1 c0 c1 hf with ⟨hcs, _⟩ | ⟨a, len', cap', m, n, V0, V1, D0, D1, P0, P1, hcs, _, hl, hm, hmm, _, hel⟩
  · simp [Value.cells] at hcs
    obtain ⟨rfl, rfl, rfl⟩ := hcs
    exact ⟨none, [], 0, rfl, Nat.le_refl _, RdAt.nil⟩
  · simp [Value.cells] at hcs
    obtain ⟨rfl, rfl, rfl⟩ := hcs
    simp only [if_true] at hmm
    have hq : ∀ i, i < len → ∃ q : Kv, W.cell? (a.add (i * 2)) = some (sv q.1) ∧ W.cell? (a.add (i * 2 + 1)) = some (sv q.2) := by
      intro i hi
      obtain ⟨h0, h1, r0, r1⟩ := hel i (by omega)
      obtain ⟨x0, e0, -⟩ := DataW.trod_string s0 r0
      obtain ⟨x1, e1, -⟩ := DataW.trod_string s1 r1
      simp only [List.cons.injEq, and_true] at e0 e1
      exact ⟨(x0.data.toList, x1.data.toList), by rw [h0, e0]; simp [sv], by rw [h1, e1]; simp [sv]⟩
    obtain ⟨ls, hll, hls⟩ := list_of len hq
    refine ⟨some a, ls, cap, by rw [hll], by omega, .inr ⟨a, rfl, fun j u hu => ?_⟩⟩
    have hj : j < ls.length * 2 := by
      have := (List.getElem?_eq_some_iff.1 hu).1
      rwa [qcs_len] at this
    have hi : j / 2 < ls.length := by omega
    obtain ⟨g1, g2⟩ := qcs_get ls (j / 2) hi
    obtain ⟨k1, k2⟩ := hls (j / 2) hi
    rcases Nat.mod_two_eq_zero_or_one j with h2 | h2
    · have e : j = j / 2 * 2 := by omega
      rw [e] at hu ⊢
      rw [g1] at hu
      cases hu
      exact k1
    · have e : j = j / 2 * 2 + 1 := by omega
      rw [e] at hu ⊢
      rw [g2] at hu
      cases hu
      exact k2
end
end Go.Proofs.Ytehbhjkceemmcaa
