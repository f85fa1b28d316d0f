/- Package kv: Right; the document's own RightPairs. -/
import Derived.Test.YtehbhjkceemmcaaKvH
namespace Go.Proofs.Ytehbhjkceemmcaa
open Go.RowKit

theorem okAt_zero {ps : List Kv} (h : 0 < ps.length) : okAt ps 0 = mayQ ps[0] := by
  unfold okAt
  rw [getElem!_pos ps 0 h]
  simp
theorem okAt_succ {ps : List Kv} {j : Nat} (h : j + 1 < ps.length) : okAt ps (j + 1) = (mayQ ps[j + 1] && kl ps[j].1 ps[j + 1].1) := by
  unfold okAt
  rw [getElem!_pos ps (j + 1) h, Nat.add_sub_cancel, getElem!_pos ps j (by omega)]
  simp
theorem good_all {ps : List Kv} (h : ∀ j, j < ps.length → okAt ps j = true) : goodL ps = true := by
  unfold goodL
  rw [List.all_eq_true]
  intro j hj
  exact h j (List.mem_range.1 hj)
theorem good_not {ps : List Kv} {j : Nat} (hj : j < ps.length) (h : okAt ps j = false) : goodL ps = false := by
  cases hg : goodL ps
  · rfl
  · unfold goodL at hg
    rw [List.all_eq_true] at hg
    rw [hg j (List.mem_range.2 hj)] at h; cases h
theorem upto_succ {ps : List Kv} {k : Nat} (h : ∀ j, j < k → okAt ps j = true) (hk : okAt ps k = true) : ∀ j, j < k + 1 → okAt ps j = true := by
  intro j hj
  rcases Nat.lt_or_ge j k with h1 | h1
  · exact h j h1
  · rw [show j = k by omega]; exact hk
/-- A region that draws its order, whose operations read and whose calls only make new memory: one walk, in the order of the text. -/
theorem wp_region_grow {P : Program} {id : Nat} {Q : Exit → Act → World → Prop} {a : Act} {w : World} {l : List Oper} (hm : P.follows .mixedOrders = true) (hB : Region.lexB .any l.toArray = true)
    (h : wpQuiet P l.toArray (fun w' => w.grownBy w' none) (fun a' => ∀ w', w.grownBy w' none → Q .normal a' w') l a) : (Code.region id l.toArray true).wp P Q a w :=
  wp_region_quiet (C := fun w' => w.grownBy w' none) hm hB (grown_drew (grown_refl _ _)) (by simpa using h)
theorem cell_newQ {w w' : World} {p : Kv} {t : TypeId} (hg : (w.alloc (.cells #[.string ⟨p.1.toArray⟩, .string ⟨p.2.toArray⟩] t)).grownBy w' none) : w'.cell? ⟨w.heap.size, 0, none⟩ = some (.string ⟨p.1.toArray⟩) := (box_at hg).1

set_option maxRecDepth 100000 in
set_option maxHeartbeats 2000000 in
theorem Right_any (A : Option Addr) (c : Nat) (ps : List Kv) (w : World) (hr : RdQ w A ps) (hm : ps.length ≤ 4611686018427387904) :
    Calls Try.prog 11 #[.slice A ps.length c] w fun e w' => e = .returned (.bool (rightL ps)) ∧ w.grownBy w' none := by
  have gs := geq_str
  have ts : ∀ l : List UInt8, (ByteArray.mk l.toArray).toList = l := fun l => Lib.toList_data _
  by_cases hn : ps.length ≤ 30
  · have hRL : Aside (rightL ps = goodL ps) := by show _ = _; unfold rightL; simp [hn]
    go_enter Try.func11, Try.ntmps11
    go_wp2
    go_loopw [10] (fun i wr => ∃ k : Nat, k ≤ ps.length ∧ i = .int .i64 k ∧ Aside (∀ j, j < k → okAt ps j = true) ∧ w.grownBy wr none) (fun i _ => ps.length - (intOf i).toNat)
    case atStart => exact ⟨0, Nat.zero_le _, rfl, (fun j hj => absurd hj (Nat.not_lt_zero _) : ∀ j, j < 0 → okAt ps j = true), grown_refl _ _⟩
    case round =>
      obtain ⟨k, hk, rfl, hok, hg⟩ := hrel
      by_cases hlt : k < ps.length
      · have hr' := hr.kept hg
        obtain ⟨ad, rfl, hc⟩ := RdQ.at hr' hlt
        cases k with
        | zero =>
          have hE : Aside (okAt ps 0 = mayQ ps[0]) := okAt_zero hlt
          have hP := isPair_any ps[0]
          generalize ps[0] = y at *
          have HC := Lib.hid hc
          clear hc
          generalize mayQ y = may at *
          cases may
          · go_wp2_with (first | (refine wpList_load_kv (by rfl) _ rfl (ad.add (0 * 2)) rfl y HC.out ?_))
            generalize hw0 : wr.alloc (Obj.cells #[Value.string ⟨y.1.toArray⟩, Value.string ⟨y.2.toArray⟩] 26) = w0
            have hg0 : w.grownBy w0 none := by rw [← hw0]; exact grown_alloc hg _
            have FY : ∀ wq, w0.grownBy wq none → wq.cell? ⟨wr.heap.size, 0, none⟩ = some (.string ⟨y.1.toArray⟩) ∧ wq.cell? ⟨wr.heap.size, 1, none⟩ = some (.string ⟨y.2.toArray⟩) := fun wq hq => box_at (by rw [hw0]; exact hq)
            refine wp_region_grow (by kernel_rfl) (by kernel_rfl) ?_
            iterate 18
              with_reducible refine wpQuiet_step (fun K hK => ?_)
              go_simp
              first
                | (refine hK _ ?_; clear hK K)
                | (refine ⟨_, fun _ _ => rfl, hK _ ?_⟩; clear hK K)
                | (apply Exists.intro
                   refine ⟨fun wq hq => ?_, hK _ ?_⟩
                   (first
                     | (go_at_call 26; exact (hP wq).mono fun _ _ h => ⟨h.1, grown_none hq h.2⟩)
                     | (obtain ⟨c1, c2⟩ := FY wq hq; go_simp; first | done | exact rfl | exact ⟨rfl, rfl⟩))
                   clear hK K)
            with_reducible refine wpQuiet_nil ?_
            intro wq hq
            go_wp2
            go_ret
            exact ⟨ret_bool (by rw [hRL.out, good_not hlt hE.out]), grown_none hg0 hq⟩
          · go_wp2_with (first | (refine wpList_load_kv (by rfl) _ rfl (ad.add (0 * 2)) rfl y HC.out ?_))
            generalize hw0 : wr.alloc (Obj.cells #[Value.string ⟨y.1.toArray⟩, Value.string ⟨y.2.toArray⟩] 26) = w0
            have hg0 : w.grownBy w0 none := by rw [← hw0]; exact grown_alloc hg _
            have FY : ∀ wq, w0.grownBy wq none → wq.cell? ⟨wr.heap.size, 0, none⟩ = some (.string ⟨y.1.toArray⟩) ∧ wq.cell? ⟨wr.heap.size, 1, none⟩ = some (.string ⟨y.2.toArray⟩) := fun wq hq => box_at (by rw [hw0]; exact hq)
            refine wp_region_grow (by kernel_rfl) (by kernel_rfl) ?_
            iterate 18
              with_reducible refine wpQuiet_step (fun K hK => ?_)
              go_simp
              first
                | (refine hK _ ?_; clear hK K)
                | (refine ⟨_, fun _ _ => rfl, hK _ ?_⟩; clear hK K)
                | (apply Exists.intro
                   refine ⟨fun wq hq => ?_, hK _ ?_⟩
                   (first
                     | (go_at_call 26; exact (hP wq).mono fun _ _ h => ⟨h.1, grown_none hq h.2⟩)
                     | (obtain ⟨c1, c2⟩ := FY wq hq; go_simp; first | done | exact rfl | exact ⟨rfl, rfl⟩))
                   clear hK K)
            with_reducible refine wpQuiet_nil ?_
            intro wq hq
            go_wp2
            go_roundw
            case rel => exact ⟨1, by omega, by go_num, (upto_succ hok.out hE.out : ∀ j, j < 0 + 1 → okAt ps j = true), grown_none hg0 hq⟩
            case measure => simp [intOf]; omega
        | succ k =>
          have hE : Aside (okAt ps (k + 1) = (mayQ ps[k + 1] && kl ps[k].1 ps[k + 1].1)) := okAt_succ hlt
          obtain ⟨ad', e', hz⟩ := RdQ.at hr' (k := k) (by omega)
          cases e'
          have hP := isPair_any ps[k + 1]
          generalize ps[k + 1] = y at *
          generalize ps[k] = z at *
          have HC := Lib.hid hc
          have HZ := Lib.hid hz.1
          clear hc hz
          generalize mayQ y = may at *
          cases may
          · go_wp2_with (first | (refine wpList_load_kv (by rfl) _ rfl (ad.add ((k + 1) * 2)) rfl y HC.out ?_))
            generalize hw0 : wr.alloc (Obj.cells #[Value.string ⟨y.1.toArray⟩, Value.string ⟨y.2.toArray⟩] 26) = w0
            have hg0 : w.grownBy w0 none := by rw [← hw0]; exact grown_alloc hg _
            have FY : ∀ wq, w0.grownBy wq none → wq.cell? ⟨wr.heap.size, 0, none⟩ = some (.string ⟨y.1.toArray⟩) ∧ wq.cell? ⟨wr.heap.size, 1, none⟩ = some (.string ⟨y.2.toArray⟩) := fun wq hq => box_at (by rw [hw0]; exact hq)
            refine wp_region_grow (by kernel_rfl) (by kernel_rfl) ?_
            iterate 18
              with_reducible refine wpQuiet_step (fun K hK => ?_)
              go_simp
              first
                | (refine hK _ ?_; clear hK K)
                | (refine ⟨_, fun _ _ => rfl, hK _ ?_⟩; clear hK K)
                | (apply Exists.intro
                   refine ⟨fun wq hq => ?_, hK _ ?_⟩
                   (first
                     | (go_at_call 26; exact (hP wq).mono fun _ _ h => ⟨h.1, grown_none hq h.2⟩)
                     | (obtain ⟨c1, c2⟩ := FY wq hq; go_simp; first | done | exact rfl | exact ⟨rfl, rfl⟩))
                   clear hK K)
            with_reducible refine wpQuiet_nil ?_
            intro wq hq
            go_wp2
            go_ret
            exact ⟨ret_bool (by rw [hRL.out, good_not hlt (by rw [hE.out]; rfl)]), grown_none hg0 hq⟩
          · go_wp2_with (first | (refine wpList_load_kv (by rfl) _ rfl (ad.add ((k + 1) * 2)) rfl y HC.out ?_))
            generalize hw0 : wr.alloc (Obj.cells #[Value.string ⟨y.1.toArray⟩, Value.string ⟨y.2.toArray⟩] 26) = w0
            have hg0 : w.grownBy w0 none := by rw [← hw0]; exact grown_alloc hg _
            have FY : ∀ wq, w0.grownBy wq none → wq.cell? ⟨wr.heap.size, 0, none⟩ = some (.string ⟨y.1.toArray⟩) ∧ wq.cell? ⟨wr.heap.size, 1, none⟩ = some (.string ⟨y.2.toArray⟩) := fun wq hq => box_at (by rw [hw0]; exact hq)
            have FZ : ∀ wq, w0.grownBy wq none → wq.cell? (ad.add (k * 2)) = some (.string ⟨z.1.toArray⟩) := fun wq hq => (grown_trans (by rw [← hw0]; exact grown_alloc (grown_refl wr none) _) hq (.inl rfl)).cell HZ.out (by simp)
            have hkk : IntKind.i64.wrap (k : Int) = (k : Int) := by rw [IntKind.wrap_i64]; omega
            have hk0 : (0 : Int) ≤ (k : Int) := by omega
            have hk1 : (k : Int) < (ps.length : Int) := by omega
            cases hkl : kl z.1 y.1
            · refine wp_region_grow (by kernel_rfl) (by kernel_rfl) ?_
              iterate 18
                with_reducible refine wpQuiet_step (fun K hK => ?_)
                go_simp
                first
                  | (refine hK _ ?_; clear hK K)
                  | (refine ⟨_, fun _ _ => rfl, hK _ ?_⟩; clear hK K)
                  | (apply Exists.intro
                     refine ⟨fun wq hq => ?_, hK _ ?_⟩
                     (first
                       | (go_at_call 26; exact (hP wq).mono fun _ _ h => ⟨h.1, grown_none hq h.2⟩)
                       | (obtain ⟨c1, c2⟩ := FY wq hq; have c3 := FZ wq hq; go_simp; first | done | exact rfl | exact ⟨rfl, rfl⟩))
                     clear hK K)
              with_reducible refine wpQuiet_nil ?_
              intro wq hq
              go_wp2
              go_ret
              exact ⟨ret_bool (by rw [hRL.out, good_not hlt (by rw [hE.out, hkl]; rfl)]), grown_none hg0 hq⟩
            · refine wp_region_grow (by kernel_rfl) (by kernel_rfl) ?_
              iterate 18
                with_reducible refine wpQuiet_step (fun K hK => ?_)
                go_simp
                first
                  | (refine hK _ ?_; clear hK K)
                  | (refine ⟨_, fun _ _ => rfl, hK _ ?_⟩; clear hK K)
                  | (apply Exists.intro
                     refine ⟨fun wq hq => ?_, hK _ ?_⟩
                     (first
                       | (go_at_call 26; exact (hP wq).mono fun _ _ h => ⟨h.1, grown_none hq h.2⟩)
                       | (obtain ⟨c1, c2⟩ := FY wq hq; have c3 := FZ wq hq; go_simp; first | done | exact rfl | exact ⟨rfl, rfl⟩))
                     clear hK K)
              with_reducible refine wpQuiet_nil ?_
              intro wq hq
              go_wp2
              go_roundw
              case rel => exact ⟨k + 1 + 1, by omega, by go_num, (upto_succ hok.out (by rw [hE.out, hkl]; rfl) : ∀ j, j < k + 1 + 1 → okAt ps j = true), grown_none hg0 hq⟩
              case measure => simp [intOf]; omega
      · obtain rfl : k = ps.length := by omega
        go_wp2
        go_ret
        exact ⟨ret_bool (by rw [hRL.out, good_all hok.out]), hg⟩
  · have hRL : rightL ps = false := by unfold rightL; simp [hn]
    go_enter Try.func11, Try.ntmps11
    go_wp2
    go_ret
    exact ⟨ret_bool (by rw [hRL]), grown_refl _ _⟩
end Go.Proofs.Ytehbhjkceemmcaa
