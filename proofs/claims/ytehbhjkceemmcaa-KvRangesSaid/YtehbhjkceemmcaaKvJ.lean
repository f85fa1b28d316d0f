/- The document's own RightPair and RightPairs. -/
import Derived.Test.YtehbhjkceemmcaaKvI
namespace Go.Proofs.Ytehbhjkceemmcaa
open Go.RowKit

theorem RPair_any (p : Kv) (w : World) : Calls Try.prog 15 #[.agg #[.string ⟨p.1.toArray⟩, .string ⟨p.2.toArray⟩]] w fun e w' => e = .returned (.bool (mayQ p)) ∧ w.grownBy w' none := by
  have h1 : (⟨p.1.toArray⟩ : ByteArray).size = p.1.length := by simp [ByteArray.size]
  have h2 : (⟨p.2.toArray⟩ : ByteArray).size = p.2.length := by simp [ByteArray.size]
  by_cases c1 : 1 ≤ p.1.length
  · by_cases c2 : p.1.length ≤ 16
    · by_cases c3 : p.2.length ≤ 24
      all_goals
        go_enter Try.func15, Try.ntmps15
        go_wp2
        go_ret
        exact ⟨ret_bool (by unfold mayQ; simp [c1, c2, c3] <;> omega), grown_alloc (grown_refl _ _) _⟩
    · go_enter Try.func15, Try.ntmps15
      go_wp2
      go_ret
      exact ⟨ret_bool (by unfold mayQ; simp [c2]), grown_alloc (grown_refl _ _) _⟩
  · have c1' : p.1.length = 0 := by omega
    go_enter Try.func15, Try.ntmps15
    go_wp2
    go_ret
    exact ⟨ret_bool (by unfold mayQ; simp [c1']), grown_alloc (grown_refl _ _) _⟩

set_option maxRecDepth 100000 in
set_option maxHeartbeats 2000000 in
theorem RRight_any (A : Option Addr) (c : Nat) (ps : List Kv) (w : World) (hr : RdQ w A ps) (hm : ps.length ≤ 4611686018427387904) :
    Calls Try.prog 23 #[.slice A ps.length c] w fun e w' => e = .returned (.bool (rightL ps)) ∧ w.grownBy w' none := by
  have gs := geq_str
  have ts : ∀ l : List UInt8, (ByteArray.mk l.toArray).toList = l := fun l => Lib.toList_data _
  have hRL : Aside (goodL ps = false → rightL ps = false) := fun h => by unfold rightL; rw [h, Bool.and_false]
  go_enter Try.func23, Try.ntmps23
  go_wp2
  go_loopw [7] (fun i wr => ∃ k : Nat, k ≤ ps.length ∧ i = .int .i64 k ∧ Aside (∀ j, j < k → okAt ps j = true) ∧ w.grownBy wr none) (fun i _ => ps.length - (intOf i).toNat)
  case atStart => exact ⟨0, Nat.zero_le _, rfl, (fun j hj => absurd hj (Nat.not_lt_zero _) : ∀ j, j < 0 → okAt ps j = true), grown_refl _ _⟩
  case round =>
    obtain ⟨k, hk, rfl, hok, hg⟩ := hrel
    by_cases hlt : k < ps.length
    · have hr' := hr.kept hg
      obtain ⟨ad, rfl, hc⟩ := RdQ.at hr' hlt
      cases k with
      | zero =>
        have hE : Aside (okAt ps 0 = mayQ ps[0]) := okAt_zero hlt
        have hP := RPair_any ps[0]
        generalize ps[0] = y at *
        have HC := Lib.hid hc
        clear hc
        generalize mayQ y = may at *
        cases may
        · go_wp2_with (first | (refine wpList_load_kv (by rfl) _ rfl (ad.add (0 * 2)) rfl y HC.out ?_))
          generalize hw0 : wr.alloc (Obj.cells #[Value.string ⟨y.1.toArray⟩, Value.string ⟨y.2.toArray⟩] 26) = w0
          have hg0 : w.grownBy w0 none := by rw [← hw0]; exact grown_alloc hg _
          have FY : ∀ wq, w0.grownBy wq none → wq.cell? ⟨wr.heap.size, 0, none⟩ = some (.string ⟨y.1.toArray⟩) ∧ wq.cell? ⟨wr.heap.size, 1, none⟩ = some (.string ⟨y.2.toArray⟩) := fun wq hq => box_at (by rw [hw0]; exact hq)
          refine wp_region_grow (by kernel_rfl) (by kernel_rfl) ?_
          iterate 18
            with_reducible refine wpQuiet_step (fun K hK => ?_)
            go_simp
            first
              | (refine hK _ ?_; clear hK K)
              | (refine ⟨_, fun _ _ => rfl, hK _ ?_⟩; clear hK K)
              | (apply Exists.intro
                 refine ⟨fun wq hq => ?_, hK _ ?_⟩
                 (first
                   | (go_at_call 15; exact (hP wq).mono fun _ _ h => ⟨h.1, grown_none hq h.2⟩)
                   | (obtain ⟨c1, c2⟩ := FY wq hq; go_simp; first | done | exact rfl | exact ⟨rfl, rfl⟩))
                 clear hK K)
          with_reducible refine wpQuiet_nil ?_
          intro wq hq
          go_wp2
          go_ret
          exact ⟨ret_bool (by rw [hRL.out (good_not hlt hE.out)]), grown_none hg0 hq⟩
        · go_wp2_with (first | (refine wpList_load_kv (by rfl) _ rfl (ad.add (0 * 2)) rfl y HC.out ?_))
          generalize hw0 : wr.alloc (Obj.cells #[Value.string ⟨y.1.toArray⟩, Value.string ⟨y.2.toArray⟩] 26) = w0
          have hg0 : w.grownBy w0 none := by rw [← hw0]; exact grown_alloc hg _
          have FY : ∀ wq, w0.grownBy wq none → wq.cell? ⟨wr.heap.size, 0, none⟩ = some (.string ⟨y.1.toArray⟩) ∧ wq.cell? ⟨wr.heap.size, 1, none⟩ = some (.string ⟨y.2.toArray⟩) := fun wq hq => box_at (by rw [hw0]; exact hq)
          refine wp_region_grow (by kernel_rfl) (by kernel_rfl) ?_
          iterate 18
            with_reducible refine wpQuiet_step (fun K hK => ?_)
            go_simp
            first
              | (refine hK _ ?_; clear hK K)
              | (refine ⟨_, fun _ _ => rfl, hK _ ?_⟩; clear hK K)
              | (apply Exists.intro
                 refine ⟨fun wq hq => ?_, hK _ ?_⟩
                 (first
                   | (go_at_call 15; exact (hP wq).mono fun _ _ h => ⟨h.1, grown_none hq h.2⟩)
                   | (obtain ⟨c1, c2⟩ := FY wq hq; go_simp; first | done | exact rfl | exact ⟨rfl, rfl⟩))
                 clear hK K)
          with_reducible refine wpQuiet_nil ?_
          intro wq hq
          go_wp2
          go_roundw
          case rel => exact ⟨1, by omega, by go_num, (upto_succ hok.out hE.out : ∀ j, j < 0 + 1 → okAt ps j = true), grown_none hg0 hq⟩
          case measure => simp [intOf]; omega
      | succ k =>
        have hE : Aside (okAt ps (k + 1) = (mayQ ps[k + 1] && kl ps[k].1 ps[k + 1].1)) := okAt_succ hlt
        obtain ⟨ad', e', hz⟩ := RdQ.at hr' (k := k) (by omega)
        cases e'
        have hP := RPair_any ps[k + 1]
        generalize ps[k + 1] = y at *
        generalize ps[k] = z at *
        have HC := Lib.hid hc
        have HZ := Lib.hid hz.1
        clear hc hz
        generalize mayQ y = may at *
        cases may
        · go_wp2_with (first | (refine wpList_load_kv (by rfl) _ rfl (ad.add ((k + 1) * 2)) rfl y HC.out ?_))
          generalize hw0 : wr.alloc (Obj.cells #[Value.string ⟨y.1.toArray⟩, Value.string ⟨y.2.toArray⟩] 26) = w0
          have hg0 : w.grownBy w0 none := by rw [← hw0]; exact grown_alloc hg _
          have FY : ∀ wq, w0.grownBy wq none → wq.cell? ⟨wr.heap.size, 0, none⟩ = some (.string ⟨y.1.toArray⟩) ∧ wq.cell? ⟨wr.heap.size, 1, none⟩ = some (.string ⟨y.2.toArray⟩) := fun wq hq => box_at (by rw [hw0]; exact hq)
          refine wp_region_grow (by kernel_rfl) (by kernel_rfl) ?_
          iterate 18
            with_reducible refine wpQuiet_step (fun K hK => ?_)
            go_simp
            first
              | (refine hK _ ?_; clear hK K)
              | (refine ⟨_, fun _ _ => rfl, hK _ ?_⟩; clear hK K)
              | (apply Exists.intro
                 refine ⟨fun wq hq => ?_, hK _ ?_⟩
                 (first
                   | (go_at_call 15; exact (hP wq).mono fun _ _ h => ⟨h.1, grown_none hq h.2⟩)
                   | (obtain ⟨c1, c2⟩ := FY wq hq; go_simp; first | done | exact rfl | exact ⟨rfl, rfl⟩))
                 clear hK K)
          with_reducible refine wpQuiet_nil ?_
          intro wq hq
          go_wp2
          go_ret
          exact ⟨ret_bool (by rw [hRL.out (good_not hlt (by rw [hE.out]; rfl))]), grown_none hg0 hq⟩
        · go_wp2_with (first | (refine wpList_load_kv (by rfl) _ rfl (ad.add ((k + 1) * 2)) rfl y HC.out ?_))
          generalize hw0 : wr.alloc (Obj.cells #[Value.string ⟨y.1.toArray⟩, Value.string ⟨y.2.toArray⟩] 26) = w0
          have hg0 : w.grownBy w0 none := by rw [← hw0]; exact grown_alloc hg _
          have FY : ∀ wq, w0.grownBy wq none → wq.cell? ⟨wr.heap.size, 0, none⟩ = some (.string ⟨y.1.toArray⟩) ∧ wq.cell? ⟨wr.heap.size, 1, none⟩ = some (.string ⟨y.2.toArray⟩) := fun wq hq => box_at (by rw [hw0]; exact hq)
          have FZ : ∀ wq, w0.grownBy wq none → wq.cell? (ad.add (k * 2)) = some (.string ⟨z.1.toArray⟩) := fun wq hq => (grown_trans (by rw [← hw0]; exact grown_alloc (grown_refl wr none) _) hq (.inl rfl)).cell HZ.out (by simp)
          have hkk : IntKind.i64.wrap (k : Int) = (k : Int) := by rw [IntKind.wrap_i64]; omega
          have hk0 : (0 : Int) ≤ (k : Int) := by omega
          have hk1 : (k : Int) < (ps.length : Int) := by omega
          cases hkl : kl z.1 y.1
          · refine wp_region_grow (by kernel_rfl) (by kernel_rfl) ?_
            iterate 18
              with_reducible refine wpQuiet_step (fun K hK => ?_)
              go_simp
              first
                | (refine hK _ ?_; clear hK K)
                | (refine ⟨_, fun _ _ => rfl, hK _ ?_⟩; clear hK K)
                | (apply Exists.intro
                   refine ⟨fun wq hq => ?_, hK _ ?_⟩
                   (first
                     | (go_at_call 15; exact (hP wq).mono fun _ _ h => ⟨h.1, grown_none hq h.2⟩)
                     | (obtain ⟨c1, c2⟩ := FY wq hq; have c3 := FZ wq hq; go_simp; first | done | exact rfl | exact ⟨rfl, rfl⟩))
                   clear hK K)
            with_reducible refine wpQuiet_nil ?_
            intro wq hq
            go_wp2
            go_ret
            exact ⟨ret_bool (by rw [hRL.out (good_not hlt (by rw [hE.out, hkl]; rfl))]), grown_none hg0 hq⟩
          · refine wp_region_grow (by kernel_rfl) (by kernel_rfl) ?_
            iterate 18
              with_reducible refine wpQuiet_step (fun K hK => ?_)
              go_simp
              first
                | (refine hK _ ?_; clear hK K)
                | (refine ⟨_, fun _ _ => rfl, hK _ ?_⟩; clear hK K)
                | (apply Exists.intro
                   refine ⟨fun wq hq => ?_, hK _ ?_⟩
                   (first
                     | (go_at_call 15; exact (hP wq).mono fun _ _ h => ⟨h.1, grown_none hq h.2⟩)
                     | (obtain ⟨c1, c2⟩ := FY wq hq; have c3 := FZ wq hq; go_simp; first | done | exact rfl | exact ⟨rfl, rfl⟩))
                   clear hK K)
            with_reducible refine wpQuiet_nil ?_
            intro wq hq
            go_wp2
            go_roundw
            case rel => exact ⟨k + 1 + 1, by omega, by go_num, (upto_succ hok.out (by rw [hE.out, hkl]; rfl) : ∀ j, j < k + 1 + 1 → okAt ps j = true), grown_none hg0 hq⟩
            case measure => simp [intOf]; omega
    · obtain rfl : k = ps.length := by omega
      go_wp2
      go_ret
      exact ⟨ret_bool (by unfold rightL; rw [good_all hok.out, Bool.and_true]; simp <;> omega), hg⟩
end Go.Proofs.Ytehbhjkceemmcaa
