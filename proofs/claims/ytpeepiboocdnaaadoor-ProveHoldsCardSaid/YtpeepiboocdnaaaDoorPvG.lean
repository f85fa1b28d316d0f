/- What the calls of package prove come to, told without its form; the runs of its chapter. -/
import Derived.Test.YtpeepiboocdnaaaDoorPvA
import Derived.Test.YtpeepiboocdnaaaDoorPvE
import Derived.Deep.WholeRow
namespace Go.Proofs.YtpeepiboocdnaaaDoor
open Go.RowKit

/-- A row of pairs that a proof may be asked of. -/
structure RowQ (w : World) (A : Option Addr) (c : Nat) (ps : List Kv) : Prop where
  rd : RdQ w A ps
  hc : ps.length ≤ c
  up : Rises ps
  hn : ps.length ≤ 100
  hs : ∀ p ∈ ps, p.1.length ≤ 100 ∧ p.2.length ≤ 100
theorem RowQ.kept {w w' : World} {A : Option Addr} {c : Nat} {ps : List Kv} (h : RowQ w A c ps) (hg : w.grownBy w' none) : RowQ w' A c ps := ⟨RdAt.kept h.rd hg, h.hc, h.up, h.hn, h.hs⟩
def zeroP : Pf := ⟨0, 0, [], []⟩
def existL (ps : List Kv) (k : List UInt8) : Pf := if hasK ps k then someL ps (lowN ps k) (lowN ps k + 1) else zeroP
def absentL (ps : List Kv) (k : List UInt8) : Pf := if hasK ps k then zeroP else coverL ps k k
/-- A call's result is that proof and that answer. -/
def PfBAt (w0 : World) (P : Pf) (b : Bool) (e : Ending) (w' : World) : Prop := ∃ A c B d rs, e = .returned (.tuple #[pfv P A c B d, .bool b]) ∧ IsPf w' P A c B d rs ∧ NewPf w0.heap.size A B rs ∧ w0.grownBy w' none
/-- How many pairs and hashes it has. -/
def sizeL (P : Pf) : Nat := P.pairs.length + (P.paths.map fun x => x.length / 32).sum
theorem pathB_len (ps : List Kv) (i : Nat) (hi : i < ps.length) : (pathB ps i).length = depthN i ps.length * 32 := by
  unfold pathB
  rw [flat_len _ (pathL_32 _ _), pathL_len _ _ (by unfold leavesL; rwa [List.length_map])]
  unfold leavesL
  rw [List.length_map]
theorem someL_size (ps : List Kv) (i j : Nat) (hj : j ≤ ps.length) : sizeL (someL ps i j) = ((List.range (j - i)).map fun k => 1 + depthN (i + k) ps.length).sum := by
  unfold someL sizeL
  by_cases h : i < j
  · rw [if_pos h]
    show ((ps.drop i).take (j - i)).length + ((pathsB ps i (j - i)).map fun x => x.length / 32).sum = _
    rw [List.length_take, List.length_drop, Nat.min_eq_left (by omega)]
    unfold pathsB
    rw [List.map_map]
    have e : ∀ n, i + n ≤ ps.length → n + ((List.range n).map ((fun x => x.length / 32) ∘ fun k => pathB ps (i + k))).sum = ((List.range n).map fun k => 1 + depthN (i + k) ps.length).sum := by
      intro n
      induction n with
      | zero => intro _; rfl
      | succ n ih =>
        intro hn
        rw [List.range_succ, List.map_append, List.map_append, List.sum_append, List.sum_append, ← ih (by omega)]
        simp only [List.map_cons, List.map_nil, List.sum_cons, List.sum_nil, Function.comp]
        rw [pathB_len ps (i + n) (by omega), Nat.mul_div_cancel _ (by decide)]
        omega
    exact e _ (by omega)
  · rw [if_neg h, show j - i = 0 by omega]; rfl

/-- The package's calls. -/
structure ProveK : Prop where
  some_ : ∀ {w A c ps} (f t : Int), RowQ w A c ps → Laid2 w → (-1000 ≤ f ∧ f ≤ 1000) → (-1000 ≤ t ∧ t ≤ 1000) → Calls Tryd.prog 18 #[.slice A ps.length c, .int .i64 f, .int .i64 t] w fun e w' => PfAt w (someL ps f.toNat (min t.toNat ps.length)) e w'
  range : ∀ {w A c ps} (x y : List UInt8), RowQ w A c ps → Laid2 w → Calls Tryd.prog 9 #[.slice A ps.length c, .string ⟨x.toArray⟩, .string ⟨y.toArray⟩] w fun e w' => PfAt w (coverL ps x y) e w'
  exist : ∀ {w A c ps} (x : List UInt8), RowQ w A c ps → Laid2 w → Calls Tryd.prog 15 #[.slice A ps.length c, .string ⟨x.toArray⟩] w fun e w' => PfBAt w (existL ps x) (hasK ps x) e w'
  absent : ∀ {w A c ps} (x : List UInt8), RowQ w A c ps → Laid2 w → Calls Tryd.prog 8 #[.slice A ps.length c, .string ⟨x.toArray⟩] w fun e w' => PfBAt w (absentL ps x) (!hasK ps x) e w'
  size : ∀ {w P A c B d rs}, IsPf w P A c B d rs → P.pairs.length ≤ 1000 → P.paths.length ≤ 1000 → (∀ x ∈ P.paths, x.length ≤ 32000) → Calls Tryd.prog 10 #[pfv P A c B d] w fun e w' => e = .returned (.int .i64 (sizeL P : Nat)) ∧ w.grownBy w' none

/-- A proof laid into a new box. -/
theorem store_pf (c f : Int) (A B : Option Addr) (n m k d : Nat) (W : World) : Sem.run Tryd.prog (storeCells ⟨W.heap.size, 0, none⟩ [.int .i64 c, .int .i64 f, .slice A n k, .slice B m d]) (W.alloc (.cells #[.int .i64 0, .int .i64 0, .slice none 0 0, .slice none 0 0] 27)) = .ok () (W.alloc (.cells #[.int .i64 c, .int .i64 f, .slice A n k, .slice B m d] 27)) := by
  have := run_storeCells_new (P := Tryd.prog) W 27 #[.int .i64 0, .int .i64 0, .slice none 0 0, .slice none 0 0] #[.int .i64 c, .int .i64 f, .slice A n k, .slice B m d] size_pf rfl (by simp [Value.oneCell'])
  simpa using this

/-! ## The runs -/

def ace : List Kv := [([97], []), ([99], []), ([101], [])]
theorem ace_c : absentL ace [99] = zeroP ∧ hasK ace [99] = true := ⟨by kernel_rfl, by kernel_rfl⟩
theorem ace_b : absentL ace [98] = someL ace 0 2 ∧ hasK ace [98] = false := ⟨by kernel_rfl, by kernel_rfl⟩
theorem ace_bd : coverL ace [98] [100] = someL ace 0 3 := by kernel_rfl
theorem ace_rises : Rises ace := by unfold Rises ace; decide +kernel
theorem ace_2 : (someL ace 0 2).count = 3 ∧ (someL ace 0 2).first = 0 ∧ (someL ace 0 2).pairs.length = 2 ∧ (someL ace 0 2).paths.length = 2 ∧ sizeL (someL ace 0 2) = 6 := ⟨rfl, rfl, rfl, rfl, by rw [someL_size _ _ _ (by decide)]; decide +kernel⟩
theorem ace_3 : (someL ace 0 3).count = 3 ∧ (someL ace 0 3).first = 0 ∧ (someL ace 0 3).pairs.length = 3 ∧ (someL ace 0 3).paths.length = 3 := ⟨rfl, rfl, rfl, rfl⟩
theorem lit_ace (w : World) : (Instr.buildSlice 24 3 #[(0, .agg #[.string ⟨#[97]⟩, .string ⟨#[]⟩]), (1, .agg #[.string ⟨#[99]⟩, .string ⟨#[]⟩]), (2, .agg #[.string ⟨#[101]⟩, .string ⟨#[]⟩])]).run Tryd.prog w = .ok (.slice (some ⟨w.heap.size, 0, none⟩) 3 3) (w.alloc (.cells #[.string ⟨#[97]⟩, .string ⟨#[]⟩, .string ⟨#[99]⟩, .string ⟨#[]⟩, .string ⟨#[101]⟩, .string ⟨#[]⟩] 23)) := by kernel_rfl
theorem ace_row (w : World) : RowQ (w.alloc (.cells #[.string ⟨#[97]⟩, .string ⟨#[]⟩, .string ⟨#[99]⟩, .string ⟨#[]⟩, .string ⟨#[101]⟩, .string ⟨#[]⟩] 23)) (some ⟨w.heap.size, 0, none⟩) 3 ace :=
  ⟨rd_row (alloc_at rfl), by decide, ace_rises, by decide, by decide⟩
theorem pathsB_le (ps : List Kv) (i n : Nat) (h : i + n ≤ ps.length) (hn : ps.length ≤ 1000) : ∀ x ∈ pathsB ps i n, x.length ≤ 32000 := by
  intro x hx
  obtain ⟨k, hk, rfl⟩ := List.mem_map.1 hx
  have := List.mem_range.1 hk
  rw [pathB_len ps (i + k) (by omega)]
  have := depthN_lt ps.length (i + k)
  omega

set_option maxRecDepth 100000 in
theorem ProveRuns_any (K : ProveK) (w : World) (hk : Laid2 w) : Calls Tryd.prog 3 #[] w fun e w' => e = .returned (.bool true) ∧ w.grownBy w' none := by
  have hr0 := ace_row w
  obtain ⟨w0, hw0⟩ : ∃ w0, w0 = w.alloc (.cells #[.string ⟨#[97]⟩, .string ⟨#[]⟩, .string ⟨#[99]⟩, .string ⟨#[]⟩, .string ⟨#[101]⟩, .string ⟨#[]⟩] 23) := ⟨_, rfl⟩
  have hg0 : w.grownBy w0 none := by rw [hw0]; exact grown_alloc (grown_refl _ _) _
  rw [← hw0] at hr0
  have HW := Lib.hid hw0.symm
  clear hw0
  have ka := fun W (h : w0.grownBy W none) => K.absent (w := W) [99] (hr0.kept h) (hk.kept (grown_none hg0 h))
  have kb := fun W (h : w0.grownBy W none) => K.absent (w := W) [98] (hr0.kept h) (hk.kept (grown_none hg0 h))
  have kr := fun W (h : w0.grownBy W none) => K.range (w := W) [98] [100] (hr0.kept h) (hk.kept (grown_none hg0 h))
  have ks := fun W A c B d rs (h : IsPf W (someL ace 0 2) A c B d rs) => K.size h (by rw [ace_2.2.2.1]; omega) (by rw [ace_2.2.2.2.1]; omega) (pathsB_le ace 0 2 (by decide) (by decide))
  rw [ace_c.1, ace_c.2] at ka
  rw [ace_b.1, ace_b.2] at kb
  rw [ace_bd] at kr
  rw [ace_2.2.2.2.2] at ks
  have z2 := ace_2
  have z3 := ace_3
  generalize someL ace 0 2 = P2 at *
  generalize someL ace 0 3 = P3 at *
  obtain ⟨z20, z21, z22, z23, -⟩ := z2
  obtain ⟨z30, z31, z32, z33⟩ := z3
  replace z20 := Lib.hid z20
  replace z21 := Lib.hid z21
  replace z22 := Lib.hid z22
  replace z23 := Lib.hid z23
  replace z30 := Lib.hid z30
  replace z31 := Lib.hid z31
  replace z32 := Lib.hid z32
  replace z33 := Lib.hid z33
  unfold pfv at ks
  simp only [z20.out, z21.out, z22.out, z23.out] at ks
  have hrow := hr0
  clear hr0
  rw [show ace.length = 3 from rfl] at ka kb kr
  go_enter Tryd.func3, Tryd.ntmps3
  have hsz2 : ∀ (A B : Option Addr) (c d : Nat), (Tryd.prog.info? 27).map (·.size) = some (#[Value.int .i64 3, .int .i64 0, .slice A 2 c, .slice B 2 d] : Array Value).size := fun _ _ _ _ => size_pf
  go_upto_region 2 with (fail)
  rw [HW.out]
  clear HW
  go_wp2_with (first
    | (go_at_call 8; refine (ka _ (grown_refl _ _)).mono ?_; clear ka; rintro e w1 ⟨A1, c1, B1, d1, rs1, rfl, -, -, hg1⟩; unfold pfv zeroP; have hst1 := store_pf 0 0 A1 B1 0 0 c1 d1 w1; have hq1 := grown_alloc hg1 (.cells #[.int .i64 0, .int .i64 0, .slice A1 0 c1, .slice B1 0 d1] 27))
    | (go_at_call 8; refine (kb _ hq1).mono ?_; clear kb; rintro e w2 ⟨A2, c2, B2, d2, rs2, rfl, hp2, -, hg2⟩; unfold pfv; rw [z20.out, z21.out, z22.out, z23.out]; have hst2 := store_pf 3 0 A2 B2 2 2 c2 d2 w2; have hr2 := alloc_at (w := w2) (o := .cells #[.int .i64 3, .int .i64 0, .slice A2 2 c2, .slice B2 2 d2] 27) rfl; have hq2 := grown_alloc (grown_none hq1 hg2) (.cells #[.int .i64 3, .int .i64 0, .slice A2 2 c2, .slice B2 2 d2] 27))
    | (go_at_call 9; refine (kr _ hq2).mono ?_; clear kr; rintro e w3 ⟨A3, c3, B3, d3, rs3, rfl, -, -, hg3⟩; unfold pfv; rw [z30.out, z31.out, z32.out, z33.out]; have hst3 := store_pf 3 0 A3 B3 3 3 c3 d3 w3; have hr3 := alloc_at (w := w3) (o := .cells #[.int .i64 3, .int .i64 0, .slice A3 3 c3, .slice B3 3 d3] 27) rfl; have hq3 := grown_alloc (grown_none hq2 hg3) (.cells #[.int .i64 3, .int .i64 0, .slice A3 3 c3, .slice B3 3 d3] 27); have hh2 := keep_of hr2 (grown_alloc hg3 (.cells #[.int .i64 3, .int .i64 0, .slice A3 3 c3, .slice B3 3 d3] 27)); have hp3 := hp2.kept (grown_none (grown_alloc (grown_refl _ _) _) (grown_alloc hg3 (.cells #[.int .i64 3, .int .i64 0, .slice A3 3 c3, .slice B3 3 d3] 27))); have a2 := cell_of_row _ _ 2 _ _ _ hh2; have a1 := cell_of_row _ _ 1 _ _ _ hh2; have b2 := cell_of_row _ _ 2 _ _ _ hr3; have b0 := cell_of_row _ _ 0 _ _ _ hr3; simp only [List.getElem?_toArray, List.getElem?_cons_zero, List.getElem?_cons_succ] at a1 a2 b0 b2)
    | (refine wpList_load_row_g (by rfl) 27 _ rfl w2.heap.size rfl 27 _ (0, 0) _ hh2 Tryd.underlying27 rfl (hsz2 _ _ _ _) ?_)
    | (go_at_call 10; refine (ks _ _ _ _ _ _ hp3).mono ?_; clear ks; rintro e w4 ⟨rfl, hg4⟩))
  go_ret
  exact ⟨rfl, grown_none hg0 (grown_none hq3 hg4)⟩
end Go.Proofs.YtpeepiboocdnaaaDoor
