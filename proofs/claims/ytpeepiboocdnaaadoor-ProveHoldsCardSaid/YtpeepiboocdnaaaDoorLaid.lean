/- What the listed variables read as, as facts on cells; the worlds in which a law begins. -/
import Derived.Test.YtpeepiboocdnaaaDoorKB
import Derived.Test.YtpeepiboocdnaaaDoorKA
import Derived.Test.YtpeepiboocdnaaaDoorTie
import Derived.ProofKit
import Derived.LaidMore
import Derived.OpenShut
import Derived.Stop.Joined
namespace Go.Proofs.YtpeepiboocdnaaaDoor
open Go.ChangeShapes Go.WideShapes Go.ChangeAt Go.WideMaps Go.WideElems Go.RowKit

theorem Tryd.own : ownKnob Tryd.prog.godebug = none := by kernel_rfl
theorem Tryd.laidOut : laidOutB Tryd.prog = true := by kernel_rfl
def laidAll : List (String × DataW Unit) := [("affiant/sha.start", Rows.laid_affiant_sha_start), ("affiant/sha.keys", Rows.laid_affiant_sha_keys)]
theorem gStart : Tryd.prog.globalNamed "affiant/sha.start" = some 0 := by kernel_rfl
theorem gKeys : Tryd.prog.globalNamed "affiant/sha.keys" = some 1 := by kernel_rfl
theorem tStart : (Tryd.prog.globals[0]?).map (·.type) = some 85 := by kernel_rfl
theorem tKeys : (Tryd.prog.globals[1]?).map (·.type) = some 93 := by kernel_rfl

theorem words_of {P : Program} {H : Type} {enc : TypeId × Value → H} {w : World} {base fuel n : Nat} {spare : Nat → Bool} {held : Bool} {t e : TypeId} {cs : List Value} {ns : List Int} {p : List MemPlace} (ht : P.underlying t = some (.array n e)) (he : P.underlying e = some (.int .u32))
    (hce : P.cellsOf e = 1) (hct : P.cellsOf t = n) (hd : DataW.trod enc P w base spare held fuel t cs = some (.agg (ns.map fun k => .lit (.int .u32 k)), p)) : cs = ns.map fun k => .int .u32 k := by
  obtain ⟨xs, m, rfl, hx, hlen, hn, hel⟩ := DataW.trod_array ht hd
  simp only [Prod.mk.injEq, DataW.agg.injEq] at hx
  have hxl : xs.length = ns.length := by have := congrArg List.length hx.1; simpa using this.symm
  apply List.ext_getElem
  · rw [List.length_map]; omega
  · intro i h1 h2
    have hi : i < n := by omega
    have h := hel i hi
    rw [hce, Nat.mul_one, List.drop_eq_getElem_cons h1, List.take_succ_cons, List.take_zero, List.getElem?_eq_getElem (by omega)] at h
    obtain ⟨k, e1, e2, _⟩ := DataW.trod_int he h
    have h3 : (xs.map (·.1))[i]'(by rw [List.length_map]; omega) = (ns.map fun k => (DataW.lit (.int .u32 k) : DataW H))[i]'(by rw [List.length_map]; omega) := by simp only [hx.1]
    simp only [List.getElem_map, e2, DataW.lit.injEq, Lit.int.injEq, true_and] at h3
    simp only [List.cons.injEq, and_true] at e1
    rw [e1, List.getElem_map, h3]

/-- The door's own heap meets the condition. -/
theorem door_met (os : Os) (args : Array Value) : laidMetH Tryd.prog laidAll ((World.doorLaid Tryd.prog 400 os).forCall (fun _ _ => 0) ⟨#[], args, []⟩).memory :=
  laidMetH_of_parts3 (fuel := 8) (laidMet_of_run' 8 (by kernel_rfl) (by kernel_rfl)) (by kernel_rfl) (by kernel_rfl)

theorem of_laid {W : World} (h : laidMetH Tryd.prog laidAll W) : LaidK W ∧ LaidS W := by
  rw [MakeChecks.laidMetH_plain _ _ _ (by kernel_rfl)] at h
  obtain ⟨ps, ⟨g0, t0, cs0, f0, p0, q0, hg0, ht0, hv0, hd0, ⟨g1, t1, cs1, f1, p1, q1, hg1, ht1, hv1, hd1, _, _⟩, _⟩, _, _⟩ := h
  obtain rfl := Option.some.inj (gStart.symm.trans hg0)
  obtain rfl := Option.some.inj (gKeys.symm.trans hg1)
  obtain rfl := Option.some.inj (tStart.symm.trans ht0)
  obtain rfl := Option.some.inj (tKeys.symm.trans ht1)
  have e0 : cs0.toList = start.cells.map wv := by
    have h := words_of (ns := start.cells.map fun x => (x.toNat : Int)) (P := Tryd.prog) (t := 85) (e := 78) (n := 8) Tryd.underlying85 Tryd.underlying78 (by kernel_rfl) (by kernel_rfl) (p := p0) hd0
    rw [h, List.map_map]; rfl
  have e1 : cs1.toList = keysL.map wv := by
    have h := words_of (ns := keysL.map fun x => (x.toNat : Int)) (P := Tryd.prog) (t := 93) (e := 78) (n := 64) Tryd.underlying93 Tryd.underlying78 (by kernel_rfl) (by kernel_rfl) (p := p1) hd1
    rw [h, List.map_map]; rfl
  refine ⟨.inr ⟨_, rfl, fun j u hu => ?_⟩, .inr ⟨_, rfl, fun j u hu => ?_⟩⟩
  · rw [add_zero_pos, World.var?_cell hg1 hv1 j, ← Array.getElem?_toList, e1]; exact hu
  · rw [add_zero_pos, World.var?_cell hg0 hv0 j, ← Array.getElem?_toList, e0]; exact hu
end Go.Proofs.YtpeepiboocdnaaaDoor
