/- The document's own First, Del; two rows of pairs compared. -/
import Derived.Test.YtehbhjkceemmcaaKvH
namespace Go.Proofs.Ytehbhjkceemmcaa
open Go.RowKit

theorem RFirst_any (A : Option Addr) (c : Nat) (ps : List Kv) (k : List UInt8) (w : World) (hr : RdQ w A ps) (hn : ps.length ≤ 1000000000) (hs : Rises ps) :
    Calls Try.prog 18 #[.slice A ps.length c, .string ⟨k.toArray⟩] w fun e w' => e = .returned (.int .i64 (lowN ps k : Nat)) ∧ w = w' := by
  have gs := lss_str
  have ts : ∀ l : List UInt8, (ByteArray.mk l.toArray).toList = l := fun l => Lib.toList_data _
  have H1 : Aside (∀ i (hl : i < ps.length), i < lowN ps k → kl ps[i].1 k = true) := fun i hl hi => below_low hs k hi hl
  have H2 : Aside (∀ i (hl : i < ps.length), lowN ps k ≤ i → kl ps[i].1 k = false) := fun i hl hi => above_low hs k hi hl
  have hN := lowN_le ps k
  clear hs
  generalize lowN ps k = N at *
  go_enter Try.func18, Try.ntmps18
  go_wp2
  go_loopw [5] (fun i wr => ∃ j : Nat, j ≤ N ∧ i = .int .i64 j ∧ w = wr) (fun i _ => ps.length - (intOf i).toNat)
  case atStart => exact ⟨0, Nat.zero_le _, rfl, rfl⟩
  case round =>
    obtain ⟨j, hj, rfl, rfl⟩ := hrel
    by_cases hlt : j < ps.length
    · obtain ⟨ad, rfl, hc, -⟩ := RdQ.get hr hlt
      have h1' : Aside (j < N → kl ps[j].1 k = true) := H1.out j hlt
      have h2' : Aside (N ≤ j → kl ps[j].1 k = false) := H2.out j hlt
      generalize ps[j] = y at *
      have hc2 : w.cell? (ad.add (j * 2)) = some (.string ⟨y.1.toArray⟩) := hc
      clear hc
      cases hkl : kl y.1 k
      · have hjN : j = N := by
          refine Nat.le_antisymm hj (Nat.le_of_not_lt fun h => ?_)
          rw [h1'.out h] at hkl; cases hkl
        subst hjN
        go_wp2
        go_ret
        exact ⟨rfl, rfl⟩
      · have hjN : j < N := by
          refine Nat.lt_of_not_le fun h => ?_
          rw [h2'.out h] at hkl; cases hkl
        go_wp2
        go_roundw
        case rel => exact ⟨j + 1, hjN, by go_num, trivial⟩
        case measure => simp [intOf]; omega
    · obtain rfl : j = N := by omega
      go_wp2
      go_ret
      exact ⟨rfl, rfl⟩

theorem lit_1k (a b : ByteArray) (w : World) : (Instr.buildSlice 22 1 #[(0, .agg #[.string a, .string b])]).run Try.prog w = .ok (.slice (some ⟨w.heap.size, 0, none⟩) 1 1) (w.alloc (.cells #[.string a, .string b] 26)) := lit_1q a b w
/-- Without that key. -/
def notL (ps : List Kv) (k : List UInt8) : List Kv := ps.filter fun p => !(p.1 == k)
theorem notL_next {ps : List Kv} {j : Nat} (h : j < ps.length) (k : List UInt8) : notL (ps.take (j + 1)) k = notL (ps.take j) k ++ (if ps[j].1 == k then [] else [ps[j]]) := by
  rw [List.take_succ_eq_append_getElem h]
  unfold notL
  rw [List.filter_append, List.filter_cons]
  cases ps[j].1 == k <;> rfl
theorem notL_del {ps : List Kv} (h : Rises ps) (k : List UInt8) : notL ps k = delL ps k := by
  have e := kvparts_of h k
  have h1 : notL (loL ps k) k = loL ps k := List.filter_eq_self.2 fun q hq => by
    have := (List.mem_filter.1 hq).2
    rw [Bool.not_eq_true', beq_eq_false_iff_ne]
    intro e; rw [e, kl_irr] at this; cases this
  have h2 : notL (atL ps k) k = [] := List.filter_eq_nil_iff.2 fun q hq => by
    have := (List.mem_filter.1 hq).2
    simp [this]
  have h3 : notL (hiL ps k) k = hiL ps k := List.filter_eq_self.2 fun q hq => by
    have := (List.mem_filter.1 hq).2
    rw [Bool.not_eq_true', beq_eq_false_iff_ne]
    intro e; rw [e, kl_irr] at this; cases this
  have e2 : notL ps k = notL (loL ps k ++ (atL ps k ++ hiL ps k)) k := by rw [← e]
  rw [e2]
  show List.filter _ _ = _
  rw [List.filter_append, List.filter_append]
  show notL (loL ps k) k ++ (notL (atL ps k) k ++ notL (hiL ps k) k) = _
  rw [h1, h2, h3]; rfl

set_option maxHeartbeats 1000000 in
theorem RDel_any (A : Option Addr) (c : Nat) (ps : List Kv) (k : List UInt8) (w : World) (hr : RdQ w A ps) (hn : ps.length ≤ 1000) (hs : Rises ps) :
    Calls Try.prog 14 #[.slice A ps.length c, .string ⟨k.toArray⟩] w fun e w' => ∃ v', e = .returned v' ∧ PB w' v' (delL ps k) ∧ w.grownBy w' none := by
  have gs := neq_str
  have ts : ∀ l : List UInt8, (ByteArray.mk l.toArray).toList = l := fun l => Lib.toList_data _
  have s1 := lit_1q
  rw [← notL_del hs]
  clear hs
  go_enter Try.func14, Try.ntmps14
  go_wp2
  go_loopw [5, 10] (fun x i wr => ∃ j : Nat, j ≤ ps.length ∧ i = .int .i64 j ∧ OwnQ wr x (notL (ps.take j) k) ∧ Grew w wr (.slice none 0 0) x) (fun _ i _ => ps.length - (intOf i).toNat)
  case atStart => exact ⟨0, Nat.zero_le _, rfl, OwnQ.nil _, Grew.refl _ _⟩
  case round =>
    obtain ⟨j, hj, rfl, ho, hg⟩ := hrel
    by_cases hlt : j < ps.length
    · obtain ⟨ad, rfl, hc⟩ := RdQ.at (hr.kept hg.nil) hlt
      have hle : (notL (ps.take j) k).length ≤ 1000 := Nat.le_trans (List.length_filter_le _ _) (by rw [List.length_take]; omega)
      have hnx := Lib.hid (notL_next hlt k)
      generalize ps[j] = y at *
      have HC := Lib.hid hc
      clear hc
      cases hkl : y.1 == k
      · go_wp2_with (first | (refine wpList_load_kv (by rfl) _ rfl (ad.add (j * 2)) rfl y HC.out ?_) | (at_builtin; refine wpList_appQ rfl _ _ rfl rfl (ho.kept (grown_alloc (grown_alloc (grown_refl _ _) _) _)) (qs := [y]) rfl rfl (rd_row (alloc_atQ (by simp))) (by simp; omega) ?_))
        intro v' w' ho' hg'
        go_wp2
        go_roundw
        case rel => exact ⟨j + 1, by omega, by go_num, by rw [hnx.out, hkl]; exact ho', hg.trans (Grew.pre (grown_alloc (grown_alloc (grown_refl _ _) _) _) hg')⟩
        case measure => simp [intOf]; omega
      · go_wp2_with (first | (refine wpList_load_kv (by rfl) _ rfl (ad.add (j * 2)) rfl y HC.out ?_))
        go_roundw
        case rel => exact ⟨j + 1, by omega, by go_num, by rw [hnx.out, hkl, if_pos rfl, List.append_nil]; exact ho.kept (grown_alloc (grown_refl _ _) _), hg.post (grown_alloc (grown_refl _ _) _)⟩
        case measure => simp [intOf]; omega
    · obtain rfl : j = ps.length := by omega
      rw [List.take_length] at ho
      go_wp2
      go_ret
      exact ⟨_, rfl, ho.toPB, hg.nil⟩
end Go.Proofs.Ytehbhjkceemmcaa
