/- The document's own leaves of pairs. -/
import Derived.Test.YtpeepiboocdnaaaDoorRefN
import Derived.Test.YtpeepiboocdnaaaDoorKO
import Derived.Test.YtpeepiboocdnaaaDoorKF
namespace Go.Proofs.YtpeepiboocdnaaaDoor
open Go.RowKit

theorem field_Q (g : Nat) (i : Nat) (hi : i < 2) (w : World) : (Instr.fieldAt 23 (.pointer (some ⟨g, 0, none⟩)) i).run Tryd.prog w = .ok (.pointer (some ⟨g, i, none⟩)) w := by
  rcases (show i = 0 ∨ i = 1 by omega) with rfl | rfl <;> kernel_rfl
theorem leafL_eq (p : Kv) : leafL p = textL p.1 ++ textL p.2 := by simp [leafL, textsL]
def stlS (t : Nat) : Bool := (decide (3 ≤ t) && decide (t ≤ 9)) || t == 2
def stlDie (k : Nat) : Nat := if k = 2 then 6 else if k = 6 then 7 else 99
def stlOwn (k : Nat) : Bool := k == 2 || k == 5 || k == 6 || k == 7
def stlF (g : Nat) (p : Kv) : Nat → Value → World → Prop
  | 0 => fun v _ => v = .pointer (some ⟨g, 0, none⟩)
  | 1 => fun v _ => v = .string ⟨(p.1).toArray⟩
  | 2 => fun v w => OwnB w v (textL (p.1))
  | 3 => fun v _ => v = .pointer (some ⟨g, 1, none⟩)
  | 4 => fun v _ => v = .string ⟨(p.2).toArray⟩
  | 5 => fun v w => OwnB w v (textL (p.2))
  | 6 => fun v w => OwnB w v (textL p.1 ++ textL p.2)
  | 7 => fun v w => OwnB w v (textL p.1 ++ textL p.2)
  | _ => fun _ _ => True
theorem stlF_lasts (g : Nat) (p : Kv) : ∀ k, Lasts (stlF g p k)
  | 0 => lasts_val _
  | 1 => lasts_val _
  | 2 => lasts_own _
  | 3 => lasts_val _
  | 4 => lasts_val _
  | 5 => lasts_own _
  | 6 => lasts_own _
  | 7 => lasts_own _
  | _ + 8 => fun _ _ _ _ _ _ _ => trivial

set_option maxRecDepth 100000 in
set_option maxHeartbeats 1000000 in
theorem RLeaf_any (p : Kv) (w : World) (h1 : p.1.length ≤ 100) (h2 : p.2.length ≤ 100) : Calls Tryd.prog 40 #[.agg #[.string ⟨p.1.toArray⟩, .string ⟨p.2.toArray⟩]] w fun e w' => ∃ v', e = .returned v' ∧ OwnB w' v' (leafL p) ∧ w.grownBy w' none := by
  have hk1 : (textL p.1).length ≤ 200 := by have := putL_len p.1.length; unfold textL; rw [List.length_append]; omega
  have hk2 : (textL p.2).length ≤ 200 := by have := putL_len p.2.length; unfold textL; rw [List.length_append]; omega
  go_enter Tryd.func40, Tryd.ntmps40
  go_wp2
  generalize hw0 : w.alloc (Obj.cells #[Value.string ⟨p.1.toArray⟩, Value.string ⟨p.2.toArray⟩] 23) = w0
  have hg0 : w.grownBy w0 none := by rw [← hw0]; exact grown_alloc (grown_refl _ _) _
  have hb0 : AtQ w0 ⟨w.heap.size, 0, none⟩ p := box_at (by rw [hw0]; exact grown_refl _ _)
  have hc0 : w0.cell? ⟨w.heap.size, 0, none⟩ = some (.string ⟨p.1.toArray⟩) := hb0.1
  have hc1 : w0.cell? ⟨w.heap.size, 1, none⟩ = some (.string ⟨p.2.toArray⟩) := hb0.2
  clear hw0 hb0
  generalize w.heap.size = G at *
  refine wp_region_go2 (N := 10) (S := stlS) (die := stlDie) (own := stlOwn) (F := stlF G p) (by kernel_rfl) (by kernel_rfl) (Nat.le_of_ble_eq_true (by kernel_rfl)) (stlF_lasts G p) ?_ ?_
  · intro i o L' a w K hi ho hg hLi hout hpre houter hitem h1 h2
    have hcases : i = 0 ∨ i = 1 ∨ i = 2 ∨ i = 3 ∨ i = 4 ∨ i = 5 ∨ i = 6 ∨ i = 7 := by
      have : i < 8 := hi
      omega
    rcases hcases with rfl | rfl | rfl | rfl | rfl | rfl | rfl | rfl
    · cases (show some _ = some o from ho)
      exact ⟨rfl, wp_field rfl (show a.eval (.tmp 1) = .pointer (some ⟨G, 0, none⟩) from houter 1 rfl) (field_Q _ 0 (by omega)) (h1 _ _ (grown_refl _ none) rfl (fun g e => by cases e) (.inl rfl))⟩
    · cases (show some _ = some o from ho)
      exact ⟨rfl, wp_loadC rfl (hitem 0 (by decide) ⟨hpre 0 rfl, hout _ (by decide)⟩) (load_cell (hg.cell hc0 (by simp)) Tryd.underlying9 rfl) (h1 _ _ (grown_refl _ none) rfl (fun g e => by cases e) (.inl rfl))⟩
    · cases (show some _ = some o from ho)
      have hx : a.eval (.tmp 4) = .string ⟨(p.1).toArray⟩ := hitem 1 (by decide) ⟨hpre 1 rfl, hout _ (by decide)⟩
      refine ⟨rfl, wp_call rfl Tryd.func49 (by kernel_rfl) (by kernel_rfl) (args := #[.string ⟨(p.1).toArray⟩]) (by simp [hx]) ((Text_refN (p.1) w (by omega)).mono ?_)⟩
      rintro e w' ⟨v, rfl, hv, hw⟩
      exact ⟨_, rfl, h1 _ _ hw.nil hv (fun g e => hv.lt _ e) (Fresh.ofNil hw)⟩
    · cases (show some _ = some o from ho)
      exact ⟨rfl, wp_field rfl (show a.eval (.tmp 1) = .pointer (some ⟨G, 0, none⟩) from houter 1 rfl) (field_Q _ 1 (by omega)) (h1 _ _ (grown_refl _ none) rfl (fun g e => by cases e) (.inl rfl))⟩
    · cases (show some _ = some o from ho)
      exact ⟨rfl, wp_loadC rfl (hitem 3 (by decide) ⟨hpre 3 rfl, hout _ (by decide)⟩) (load_cell (hg.cell hc1 (by simp)) Tryd.underlying9 rfl) (h1 _ _ (grown_refl _ none) rfl (fun g e => by cases e) (.inl rfl))⟩
    · cases (show some _ = some o from ho)
      have hx : a.eval (.tmp 7) = .string ⟨(p.2).toArray⟩ := hitem 4 (by decide) ⟨hpre 4 rfl, hout _ (by decide)⟩
      refine ⟨rfl, wp_call rfl Tryd.func49 (by kernel_rfl) (by kernel_rfl) (args := #[.string ⟨(p.2).toArray⟩]) (by simp [hx]) ((Text_refN (p.2) w (by omega)).mono ?_)⟩
      rintro e w' ⟨v, rfl, hv, hw⟩
      exact ⟨_, rfl, h1 _ _ hw.nil hv (fun g e => hv.lt _ e) (Fresh.ofNil hw)⟩
    · cases (show some _ = some o from ho)
      obtain ⟨A5, c5, e5, q1, q2, hr5⟩ := OwnB.slice (hitem 5 (by decide) ⟨hpre 5 rfl, hout _ (by decide)⟩)
      exact ⟨rfl, wp_appB rfl rfl (hitem 2 (by decide) ⟨hpre 2 rfl, hLi⟩) e5 rfl hr5 (by omega) fun v w' hv hw => h2 2 v w' (by decide) ⟨hpre 2 rfl, hLi⟩ rfl rfl hw.1 hv (fun g e => hv.lt _ e) (Fresh.ofGrew hw)⟩
    · cases (show some _ = some o from ho)
      have hx := hitem 6 (by decide) ⟨hpre 6 rfl, hLi⟩
      exact ⟨rfl, wp_assign rfl (h2 6 _ _ (by decide) ⟨hpre 6 rfl, hLi⟩ rfl rfl (grown_refl _ _) hx (fun g e => OwnB.lt hx _ e) (Fresh.ofGrew (Grew.refl _ _)))⟩
  · intro a w hg hend ha
    obtain ⟨hv, -⟩ := hend 7 (by decide) (by decide)
    obtain ⟨f, hf⟩ : ∃ f : Nat → Value, f = fun t => a.tmps.getD t undef := ⟨_, rfl⟩
    have hv' : OwnB w (f 2) (textL p.1 ++ textL p.2) := by rw [hf]; exact hv
    rw [← hf] at ha
    generalize hR : f 2 = rv at hv'
    clear hv hend
    clear hf
    subst ha
    simp only [fill, stlS, Nat.reduceAdd, Nat.reduceBEq, Nat.reduceLeDiff, decide_false, decide_true, Bool.or_false, Bool.or_true, Bool.and_true, cond_true, cond_false, hR]
    clear hR
    go_wp2_with fail
    go_ret
    exact ⟨_, rfl, by rw [leafL_eq]; exact hv', grown_none hg0 hg⟩
end Go.Proofs.YtpeepiboocdnaaaDoor
