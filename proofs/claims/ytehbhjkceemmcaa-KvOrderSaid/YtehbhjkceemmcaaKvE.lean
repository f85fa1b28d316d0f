/- slices.Clone, Grow, Concat of rows of pairs. -/
import Derived.Test.YtehbhjkceemmcaaKvD
namespace Go.Proofs.Ytehbhjkceemmcaa
open Go.RowKit

theorem eq_nilQ (w : World) (A : Option Addr) (n c n' c' : Nat) : (binOp .eql 22 (.slice A n c) (.slice none n' c')).run Try.prog w = .ok (.bool A.isNone) w := Lib.run_eql_slice_nil w _ _ A n c n' c' Try.underlying22
/-- A slice of pairs without an address has none. -/
theorem RdQ.none {w : World} {ps : List Kv} (h : RdQ w none ps) : ps = [] := by
  rcases h with h | ⟨ad, e, _⟩
  · exact qcs_nil h
  · cases e
theorem emptyQ (w : World) : OwnQ (w.alloc (.cells #[] 26)) (.slice (some ⟨w.heap.size, 0, none⟩) 0 0) [] := ownQ_new w #[] [] 0 rfl rfl (Nat.zero_le _)

theorem CloneQ_any (A : Option Addr) (c : Nat) (ps : List Kv) (w : World) (hr : RdQ w A ps) (hn : ps.length ≤ 1000000) :
    Calls Try.prog 27 #[.slice A ps.length c] w fun e w' => ∃ v', e = .returned v' ∧ PB w' v' ps ∧ w.grownBy w' none := by
  have q := eq_nilQ
  cases A with
  | none =>
    obtain rfl := hr.none
    go_enter Try.func27, Try.ntmps27
    go_wp2
    go_ret
    exact ⟨_, rfl, PB.nil _, grown_refl _ _⟩
  | some ad =>
    have hr2 := hr.alloc (.cells #[] 26)
    have hO := emptyQ w
    go_enter Try.func27, Try.ntmps27
    go_wp2_with (at_builtin; refine wpList_appQ rfl _ _ rfl rfl hO rfl rfl hr2 (by simp; omega) ?_)
    intro v' w' ho hg
    go_wp2
    go_ret
    exact ⟨_, rfl, ho.toPB, (Grew.fresh hg).nil⟩

theorem Grow_nil (n : Nat) (w : World) (hn : n ≤ 1000000000) :
    Calls Try.prog 33 #[.slice none 0 0, .int .i64 (n : Nat)] w fun e w' => ∃ v', e = .returned v' ∧ OwnQ w' v' [] ∧ Grew w w' (.slice none 0 0) v' := by
  obtain ⟨i, hi, hz, hs, hby⟩ := info_parts info_kv
  rcases Nat.eq_zero_or_pos n with rfl | hpos
  · go_enter Try.func33, Try.ntmps33
    go_wp2
    go_ret
    exact ⟨_, rfl, OwnQ.nil _, Grew.refl _ _⟩
  · have hrz := fun ty => Lib.run_append_nil_zeros (P := Try.prog) w 22 3 ty 26 i _ .i64 .i64 Try.underlying22 Try.underlying3 hi hz n hpos (by omega) (by omega) (by rw [hby]; omega)
    have hge := grownCap_ge w n 0 26
    have hle := grownCap_le_maxLen w n 0 26 (by unfold maxLen; omega)
    generalize grownCap w n 0 26 = G at *
    have hzl : ∀ m, (Builtin.zeroCells (Value.agg #[.string ⟨#[]⟩, .string ⟨#[]⟩]).cells m).size = m * 2 := by
      intro m
      simp [Builtin.zeroCells, Value.cells]
    have hsl : ∀ (W : World), (Instr.sliceAt 22 (.slice (some ⟨w.heap.size, 0, none⟩) n G) none (some (.int .i64 0)) none).run Try.prog W = .ok (.slice (some ⟨w.heap.size, 0, none⟩) 0 G) W := fun W => sl_hiQ _ _ _ 0 (Nat.zero_le _) W
    have hsn : ∀ (W : World), (Instr.sliceAt 22 (.slice none 0 0) none (some (.int .i64 0)) none).run Try.prog W = .ok (.slice none 0 0) W := fun W => sl_hiQ _ _ _ 0 (Nat.le_refl _) W
    have hcs : ((Builtin.zeroCells (Value.agg #[.string ⟨#[]⟩, .string ⟨#[]⟩]).cells n) ++ (Builtin.zeroCells (Value.agg #[.string ⟨#[]⟩, .string ⟨#[]⟩]).cells (G - n))).size = G * 2 := by
      rw [Array.size_append, hzl, hzl]; omega
    generalize ((Builtin.zeroCells (Value.agg #[.string ⟨#[]⟩, .string ⟨#[]⟩]).cells n) ++ (Builtin.zeroCells (Value.agg #[.string ⟨#[]⟩, .string ⟨#[]⟩]).cells (G - n))) = cs at *
    clear hzl
    have hres : OwnQ (w.drew.alloc (.cells cs 26)) (.slice (some ⟨w.heap.size, 0, none⟩) 0 G) [] :=
      ⟨w.heap.size, by simp, by simp [qcs], .inr ⟨w.heap.size, G, cs, rfl, Nat.le_refl _, heap_alloc_new w.drew _, Nat.zero_le _, hle, hcs, by simp [qcs]⟩⟩
    go_enter Try.func33, Try.ntmps33
    go_wp2_with (at_builtin; refine Lib.wpList_append_run _ rfl _ _ 22 3 rfl _ _ rfl rfl _ _ (hrz _) ?_)
    go_ret
    exact ⟨_, rfl, hres, grown_alloc (grown_drew (grown_refl _ _)) _, .inr ⟨_, rfl, Nat.le_refl _⟩⟩

/-- What the slices hold together. -/
def catQ (ts : List (Value × List Kv)) : List Kv := ts.flatMap (·.2)
theorem catQ_next {ts : List (Value × List Kv)} {k : Nat} (h : k < ts.length) : catQ (ts.take (k + 1)) = catQ (ts.take k) ++ ts[k].2 := by
  rw [List.take_succ_eq_append_getElem h, catQ, List.flatMap_append]; simp [catQ]
theorem catQ_le (ts : List (Value × List Kv)) (k : Nat) : (catQ (ts.take k)).length ≤ (catQ ts).length := by
  have e : catQ ts = catQ (ts.take k) ++ catQ (ts.drop k) := by
    unfold catQ
    rw [← List.flatMap_append, List.take_append_drop]
  rw [e, List.length_append]; omega

set_option maxHeartbeats 2000000 in
theorem Concat_any (A : Option Addr) (c : Nat) (ts : List (Value × List Kv)) (w : World) (hr : RdAt w A (ts.map (·.1))) (hp : ∀ t ∈ ts, PS w t.1 t.2) (hb : (catQ ts).length ≤ 1000000) (hn : ts.length ≤ 1000) :
    Calls Try.prog 28 #[.slice A ts.length c] w fun e w' => ∃ v', e = .returned v' ∧ OwnQ w' v' (catQ ts) ∧ Grew w w' (.slice none 0 0) v' := by
  have hnext : ∀ (w' : World), w.grownBy w' none → ∀ k, k < ts.length → ∃ ad B cB, A = some ad ∧ w'.cell? (ad.add k) = some (.slice B ts[k]!.2.length cB) ∧ RdQ w' B ts[k]!.2 ∧ catQ (ts.take (k + 1)) = catQ (ts.take k) ++ ts[k]!.2 := by
    intro w' hg k hk
    obtain ⟨ad, hA, hc⟩ := (hr.kept hg).get (k := k) (by rw [List.length_map]; exact hk)
    obtain ⟨B, cB, e, _, hB⟩ := (hp ts[k] (List.getElem_mem hk)).kept hg
    rw [List.getElem_map, e] at hc
    rw [getElem!_pos ts k hk]
    exact ⟨ad, B, cB, hA, hc, hB, catQ_next hk⟩
  have hle := catQ_le ts
  have hall : catQ (ts.take ts.length) = catQ ts := by rw [List.take_length]
  clear hr hp
  go_enter Try.func28, Try.ntmps28
  go_wp2
  go_loopw [3, 11] (fun x i wr => ∃ k : Nat, k ≤ ts.length ∧ i = .int .i64 k ∧ x = .int .i64 ((catQ (ts.take k)).length : Nat) ∧ w = wr) (fun _ i _ => ts.length - (intOf i).toNat)
  case atStart => exact ⟨0, Nat.zero_le _, rfl, rfl, rfl⟩
  case round =>
    obtain ⟨k, hk, rfl, rfl, rfl⟩ := hrel
    by_cases hlt : k < ts.length
    · obtain ⟨ad, B, cB, rfl, hc, hB, hnx⟩ := hnext w (grown_refl _ _) k hlt
      have hl := hle (k + 1)
      rw [hnx, List.length_append] at hl
      have HN := Lib.hid hnx
      clear hnx
      generalize ts[k]! = t at *
      generalize hM : (catQ (ts.take k)).length = M at *
      go_wp2
      go_roundw
      case rel => exact ⟨k + 1, by omega, by go_num, by rw [HN.out, List.length_append, hM]; go_num, trivial⟩
      case measure => simp [intOf]; omega
    · obtain rfl : k = ts.length := by omega
      rw [hall]
      go_wp2_with (go_at_call 33; refine (Grow_nil _ _ (by omega)).mono ?_; rintro e w1 ⟨v1, rfl, ho1, hg1⟩)
      go_loopw [6, 27] (fun x i wr => ∃ k : Nat, k ≤ ts.length ∧ i = .int .i64 k ∧ OwnQ wr x (catQ (ts.take k)) ∧ Grew w wr (.slice none 0 0) x) (fun _ i _ => ts.length - (intOf i).toNat)
      case atStart => exact ⟨0, Nat.zero_le _, rfl, ho1, hg1⟩
      case round =>
        obtain ⟨k, hk, rfl, ho, hg⟩ := hrel
        by_cases hlt : k < ts.length
        · obtain ⟨ad, B, cB, rfl, hc, hB, hnx⟩ := hnext wr hg.nil k hlt
          have hl := hle (k + 1)
          rw [hnx, List.length_append] at hl
          have HN := Lib.hid hnx
          clear hnx
          generalize ts[k]! = t at *
          go_wp2_with (at_builtin; refine wpList_appQ rfl _ _ rfl rfl ho rfl rfl hB (by omega) ?_)
          intro v' w' ho' hg'
          go_wp2
          go_roundw
          case rel => exact ⟨k + 1, by omega, by go_num, by rw [HN.out]; exact ho', hg.trans hg'⟩
          case measure => simp [intOf]; omega
        · obtain rfl : k = ts.length := by omega
          rw [hall] at ho
          go_wp2
          go_ret
          exact ⟨_, rfl, ho, hg⟩
end Go.Proofs.Ytehbhjkceemmcaa
