/- What an argument is: a list of hashes. -/
import Derived.Test.YtmfnncfiaaeknaaDoorTail2
namespace Go.Proofs.YtmfnncfiaaeknaaDoor
open Go.ChangeShapes Go.WideShapes Go.ChangeAt Go.WideMaps Go.WideElems Go.RowKit

section
variable {H : Type} {enc : TypeId × Value → H} {P : Program} {W : World} {base : Nat} {v : Value} {d : DataW H} {p : List MemPlace}

theorem hash_cells {e b : TypeId} {fuel : Nat} {cs : List Value} {x : DataW H × List MemPlace} (he : P.underlying e = some (.array 32 b)) (hb : P.underlying b = some (.int .u8)) (hcb : P.cellsOf b = 1) (hce : P.cellsOf e = 32)
    (hf : DataW.trod enc P W 0 (fun _ => true) true fuel e cs = some x) : ∃ l : List UInt8, cs = l.map bv ∧ l.length = 32 := by
  obtain ⟨xs, m, _, _, hlen, hxl, hx⟩ := DataW.trod_array he hf
  have hcs : cs.length = 32 := by rw [hlen, hce]
  have hall : ∀ v ∈ cs, ∃ n : Int, v = .int .u8 n ∧ 0 ≤ n ∧ n ≤ 255 := by
    intro v hv
    obtain ⟨i, hi, rfl⟩ := List.getElem_of_mem hv
    have h1 := hx i (by omega)
    rw [hcb, Nat.mul_one, List.getElem?_eq_getElem (by omega)] at h1
    obtain ⟨n, e1, _, hw⟩ := DataW.trod_int hb h1
    have e2 : (cs.drop i).take 1 = [cs[i]] := by rw [List.drop_eq_getElem_cons hi]; rfl
    rw [e2] at e1
    injection e1 with e1
    exact ⟨n, e1, bounds_u8 hw⟩
  obtain ⟨l, hl⟩ := bytes_of _ hall
  refine ⟨l, hl, ?_⟩
  rw [hl, List.length_map] at hcs
  exact hcs

theorem flat_of {ls : List (List UInt8)} (h : ∀ x ∈ ls, x.length = 32) : ∀ (i j : Nat), j < 32 → ls.flatten[i * 32 + j]? = (ls[i]?).bind fun x => x[j]? := by
  induction ls with
  | nil => intro i j _; simp
  | cons a ls ih =>
    intro i j hj
    have ha := h a (List.mem_cons_self ..)
    cases i with
    | zero => rw [List.flatten_cons, List.getElem?_append_left (by omega)]; simp
    | succ i =>
      rw [List.flatten_cons, List.getElem?_append_right (by omega), ha, show (i + 1) * 32 + j - 32 = i * 32 + j by omega, ih (fun x hx => h x (List.mem_cons_of_mem _ hx)) i j hj]
      simp

theorem arg_hashes {t e b : TypeId} (ht : P.underlying t = some (.slice e)) (he : P.underlying e = some (.array 32 b)) (hb : P.underlying b = some (.int .u8)) (hce : P.cellsOf e = 32) (hcb : P.cellsOf b = 1)
    (hv : Value.okWide P W .any base t v) (hd : DataW.Trod enc P W 0 (fun _ => true) true t v d p) :
    ∃ (A : Option Addr) (l : List UInt8) (n c : Nat), v = .slice A n c ∧ n ≤ c ∧ l.length = n * 32 ∧ RdB W A l := by
  obtain ⟨a0, len, cap, rfl⟩ := okWide_slice ht hv
  obtain ⟨fuel, hf⟩ := hd
  rcases DataW.trod_slice ht hf with ⟨hcs, _⟩ | ⟨a, len', cap', elems, rest, n, _, hcs, hx, _, hl, hm, hlen, hel, _⟩
  · simp [Value.cells] at hcs
    obtain ⟨rfl, rfl, rfl⟩ := hcs
    exact ⟨none, [], 0, 0, rfl, Nat.le_refl _, rfl, RdAt.nil⟩
  · simp [Value.cells] at hcs
    obtain ⟨rfl, rfl, rfl⟩ := hcs
    have hq : ∀ i, i < len → ∃ q : List UInt8, q.length = 32 ∧ ∀ j u, (q.map bv)[j]? = some u → W.cell? ((a.add (i * 32)).add j) = some u := by
      intro i hi
      have hE := hel i hi
      rw [hce, List.getElem?_eq_getElem (by omega)] at hE
      simp only [Option.bind_eq_some_iff] at hE
      obtain ⟨c1, hc1, hy1⟩ := hE
      obtain ⟨q, rfl, hq⟩ := hash_cells he hb hcb hce hy1
      obtain ⟨_, hlen1, hcell⟩ := World.cells?_some hc1
      refine ⟨q, hq, fun j u hu => ?_⟩
      have hj : j < 32 := by
        have := (List.getElem?_eq_some_iff.1 hu).1
        rw [List.length_map, hq] at this; exact this
      rw [hcell j hj]; exact hu
    obtain ⟨ls, hll, hls⟩ := list_of len hq
    have h32 : ∀ x ∈ ls, x.length = 32 := by
      intro x hx
      obtain ⟨i, hi, rfl⟩ := List.getElem_of_mem hx
      exact (hls i hi).1
    have hfl : ls.flatten.length = len * 32 := by
      rw [← hll]
      clear hls hll
      induction ls with
      | nil => rfl
      | cons x ls ih =>
        rw [List.flatten_cons, List.length_append, ih (fun y hy => h32 y (List.mem_cons_of_mem _ hy)), h32 x (List.mem_cons_self ..), List.length_cons]; omega
    refine ⟨some a, ls.flatten, len, cap, rfl, by omega, hfl, .inr ⟨a, rfl, fun j u hu => ?_⟩⟩
    have hj : j < len * 32 := by
      have := (List.getElem?_eq_some_iff.1 hu).1
      rw [List.length_map, hfl] at this; exact this
    have e : j = j / 32 * 32 + j % 32 := by omega
    have hi : j / 32 < ls.length := by omega
    rw [e, List.getElem?_map, flat_of h32 _ _ (Nat.mod_lt _ (by decide)), List.getElem?_eq_getElem hi] at hu
    rw [e, ← add_add]
    exact (hls _ hi).2 _ u (by rw [List.getElem?_map]; exact hu)
end
end Go.Proofs.YtmfnncfiaaeknaaDoor
