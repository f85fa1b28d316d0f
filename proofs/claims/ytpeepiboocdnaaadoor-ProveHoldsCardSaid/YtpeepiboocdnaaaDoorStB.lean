/- The document's own rows of leaves. -/
import Derived.Test.YtpeepiboocdnaaaDoorStA
import Derived.Test.YtpeepiboocdnaaaDoorKJ
namespace Go.Proofs.YtpeepiboocdnaaaDoor
open Go.RowKit

/-- Lists of the call's own, each in a block of its own, as parts. -/
def OwnParts (w : World) (qs : List Part) : Prop := ∀ q ∈ qs, OwnB w (pv q) q.2.1
theorem OwnParts.kept {w w' : World} {qs : List Part} (h : OwnParts w qs) (hg : w.grownBy w' none) : OwnParts w' qs := fun q hq => (h q hq).kept hg
theorem OwnParts.keep {w w' : World} {qs : List Part} {v : Value} {xs : List Value} (h : OwnParts w qs) (ho : OwnV 61 w v xs) (hg : w.grownBy w' v.ownBlock) : OwnParts w' qs := fun q hq =>
  (h q hq).keep hg ((h q hq).toV.apart ho (by decide))
theorem OwnParts.rd {w : World} {A : Option Addr} {qs : List Part} (h : OwnParts w qs) (hr : RdAt w A (qs.map pv)) : RdP w A qs := ⟨hr, fun q hq => by
  obtain ⟨A', c', e, -, -, hr'⟩ := (h q hq).slice
  have : q.1 = A' := by have := e; unfold pv at this; injection this
  rw [this]; exact hr'⟩
theorem own_part {w : World} {v : Value} {l : List UInt8} (h : OwnB w v l) : ∃ q : Part, v = pv q ∧ q.2.1 = l := by
  obtain ⟨A, c, e, -⟩ := h.slice
  exact ⟨(A, l, c), e, rfl⟩
def leavesL (ps : List Kv) : List (List UInt8) := ps.map leafL
theorem leavesL_next {ps : List Kv} {j : Nat} (h : j < ps.length) : leavesL (ps.take (j + 1)) = leavesL (ps.take j) ++ [leafL ps[j]] := by
  unfold leavesL
  rw [List.take_succ_eq_append_getElem h, List.map_append]; rfl

set_option maxRecDepth 100000 in
set_option maxHeartbeats 1000000 in
theorem Rleaves_any (A : Option Addr) (c : Nat) (ps : List Kv) (w : World) (hr : RdQ w A ps) (hn : ps.length ≤ 100) (hs : ∀ p ∈ ps, p.1.length ≤ 100 ∧ p.2.length ≤ 100) :
    Calls Tryd.prog 28 #[.slice A ps.length c] w fun e w' => ∃ (A' : Option Addr) (qs : List Part) (c' : Nat), e = .returned (.slice A' qs.length c') ∧ qs.length ≤ c' ∧ RdP w' A' qs ∧ leavesOf qs = leavesL ps ∧ w.grownBy w' none := by
  go_enter Tryd.func28, Tryd.ntmps28
  go_wp2
  go_loopw [3, 8] (fun x i wr => ∃ (j : Nat) (qs : List Part), j ≤ ps.length ∧ i = .int .i64 j ∧ OwnV 61 wr x (qs.map pv) ∧ OwnParts wr qs ∧ leavesOf qs = leavesL (ps.take j) ∧ Grew w wr (.slice none 0 0) x) (fun _ i _ => ps.length - (intOf i).toNat)
  case atStart => exact ⟨0, [], Nat.zero_le _, rfl, OwnV.nil _, (fun q hq => by cases hq), rfl, Grew.refl _ _⟩
  case round =>
    obtain ⟨j, qs, hj, rfl, ho, hop, hql, hg⟩ := hrel
    have HQ := Lib.hid hql
    clear hql
    by_cases hlt : j < ps.length
    · obtain ⟨ad, rfl, hc⟩ := RdQ.at (hr.kept hg.nil) hlt
      have hsj := hs _ (List.getElem_mem hlt)
      have hnx := Lib.hid (leavesL_next hlt)
      have hqn : qs.length = j := by have := congrArg List.length HQ.out; rw [leavesOf_len] at this; rw [this]; simp [leavesL]; omega
      have hq100 : qs.length ≤ 100 := by omega
      clear hqn
      generalize ps[j] = y at *
      have HC := Lib.hid hc
      clear hc
      have hb : ∀ W : World, (wr.alloc (Obj.cells #[Value.string ⟨y.1.toArray⟩, Value.string ⟨y.2.toArray⟩] 23)).grownBy W none → AtQ W ⟨wr.heap.size, 0, none⟩ y := fun W h => box_at h
      have hb0 := hb _ (grown_refl _ _)
      go_wp2_with (first
        | (refine wpList_load_kv (by rfl) _ rfl (ad.add (j * 2)) rfl y HC.out ?_)
        | (refine wpList_load_kv (by rfl) _ rfl ⟨wr.heap.size, 0, none⟩ rfl y hb0 ?_)
        | (go_at_call 40; refine (RLeaf_any y _ hsj.1 hsj.2).mono ?_; rintro e wa ⟨va, rfl, hoa, hga⟩; have hgA := grown_none (grown_alloc (grown_refl wr none) _) hga; obtain ⟨Ae, ce, e1, -⟩ := hoa.slice; subst e1; have ho2 := (ho.kept hgA).alloc (.cells #[.slice Ae (leafL y).length ce] 61))
        | (at_builtin; refine wpList_appV _ rfl _ _ 46 rfl Tryd.underlying46 info_listT rfl rfl ho2 (news := [pv (Ae, leafL y, ce)]) rfl rfl (rd_row (alloc_at (by simp))) ?k1 ?k2 ?k3 ?_; (case k1 => intro u hu; rw [List.mem_singleton.1 hu]; rfl); (case k2 => rw [List.length_map]; simp; omega); (case k3 => rw [List.length_map]; simp [maxLen]; omega)))
      intro v' w' ho' hg'
      go_wp2
      go_roundw
      case rel =>
        have hgB := grown_alloc hgA (.cells #[.slice Ae (leafL y).length ce] 61)
        refine ⟨j + 1, qs ++ [(Ae, leafL y, ce)], by omega, by go_num, by rw [List.map_append]; exact ho', ?_, ?_, (hg.post hgB).trans hg'⟩
        · have h1 : OwnParts _ (qs ++ [(Ae, leafL y, ce)]) := fun q hq => by
            rcases List.mem_append.1 hq with hq | hq
            · exact (hop.kept hgB) q hq
            · rw [List.mem_singleton.1 hq]
              exact hoa.alloc _
          exact h1.keep ho2 hg'.1
        · rw [hnx.out, ← HQ.out]; unfold leavesOf; rw [List.map_append]; rfl
      case measure => simp [intOf]; omega
    · obtain rfl : j = ps.length := by omega
      have hq : leavesOf qs = leavesL ps := by rw [HQ.out, List.take_length]
      obtain ⟨A', c', e1, hc', -, hr'⟩ := ho.slice
      rw [List.length_map] at e1 hc'
      subst e1
      go_wp2
      go_ret
      exact ⟨A', qs, c', rfl, hc', hop.rd hr', hq, hg.nil⟩
end Go.Proofs.YtpeepiboocdnaaaDoor
