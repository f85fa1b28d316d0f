/- The document's own cover of a range. -/
import Derived.Test.YtpeepiboocdnaaaDoorPvE
import Derived.Test.YtpeepiboocdnaaaDoorKN
namespace Go.Proofs.YtpeepiboocdnaaaDoor
open Go.RowKit

set_option maxRecDepth 100000 in
set_option maxHeartbeats 1000000 in
theorem RCover_any (A : Option Addr) (c : Nat) (ps : List Kv) (x y : List UInt8) (w : World) (hr : RdQ w A ps) (hn : ps.length ≤ 100) (hs : ∀ p ∈ ps, p.1.length ≤ 100 ∧ p.2.length ≤ 100) (hri : Rises ps) :
    Calls Tryd.prog 17 #[.slice A ps.length c, .string ⟨x.toArray⟩, .string ⟨y.toArray⟩] w fun e w' => PfAt w (coverL ps x y) e w' := by
  have k1 := fun W (hg : w.grownBy W none) => RFirst_any A c ps x W (hr.kept hg) (by omega) hri
  have k2 := fun W (hg : w.grownBy W none) => RFirst_any A c ps y W (hr.kept hg) (by omega) hri
  have hlx := lowN_le ps x
  have hly := lowN_le ps y
  have hcv : coverL ps x y = someL ps (lowN ps x - 1) (min (max (lowN ps x) (lowN ps y) + 1) ps.length) := rfl
  rw [hcv]
  clear hcv
  generalize lowN ps x = f at *
  generalize lowN ps y = t at *
  have kp := fun W (hg : w.grownBy W none) => RProve_any A c ps (f - 1) ((min (max f t + 1) ps.length : Nat) : Int) W (hr.kept hg) hn hs (by omega) (by omega)
  obtain ⟨N, hN⟩ : ∃ N, N = ps.length := ⟨_, rfl⟩
  rw [← hN] at k1 k2 kp hlx hly hn ⊢
  have HN := Lib.hid hN
  clear hN hr hs hri
  go_enter Tryd.func17, Tryd.ntmps17
  by_cases htf : t < f
  · have htI : (t : Int) < (f : Int) := by omega
    have kq : ∀ W, w.grownBy W none → Calls Tryd.prog 16 #[.slice A N c, .int .i64 ((f : Int) - 1), .int .i64 (if (N : Int) < (f : Int) + 1 then (N : Int) else (f : Int) + 1)] W fun e w' => PfAt W (someL ps (f - 1) (min (max f t + 1) N)) e w' := fun W hg => by
      have h := kp W hg
      rw [Int.toNat_natCast, show ((f - 1 : Nat) : Int) = ((f : Int) - 1) by omega, show ((min (max f t + 1) N : Nat) : Int) = (if (N : Int) < (f : Int) + 1 then (N : Int) else (f : Int) + 1) by split <;> omega] at h
      exact h
    clear kp
    generalize hR : someL ps (f - 1) (min (max f t + 1) N) = R at *
    clear hR
    go_wp2_with (first
      | (go_at_call 14; refine (k1 _ (grown_alloc (grown_refl _ _) _)).mono ?_; clear k1; rintro e w1 ⟨rfl, rfl⟩)
      | (go_at_call 14; refine (k2 _ (grown_alloc (grown_refl _ _) _)).mono ?_; clear k2; rintro e w2 ⟨rfl, rfl⟩)
      | (go_at_call 16; refine (kq _ (grown_alloc (grown_refl _ _) _)).mono ?_; rintro e w3 ⟨A3, c3, B3, d3, rs3, rfl, hp3, hn3, hg3⟩; unfold pfv; have hR3 := keep_of (alloc_at (w := w) (o := .cells #[.int .i64 0, .int .i64 0, .slice none 0 0, .slice none 0 0] 27) rfl) hg3)
      | (refine wpList_store_row rfl 27 _ _ rfl w.heap.size #[.int .i64 R.count, .int .i64 R.first, .slice A3 R.pairs.length c3, .slice B3 R.paths.length d3] rfl rfl 27 _ hR3 size_pf rfl (by simp [Value.oneCell']) ?_))
    all_goals refine bodyPost_ret (results_cell_row rfl _ _ w.heap.size 27 #[.int .i64 R.count, .int .i64 R.first, .slice A3 R.pairs.length c3, .slice B3 R.paths.length d3] (0, 0) _ rfl (setRow_heap _ _ _ _ _ _ hR3) Tryd.underlying27 rfl size_pf) rfl ?_
    all_goals exact ⟨A3, c3, B3, d3, rs3, rfl, hp3.over hn3 (by simp) _, hn3.le (by simp), grown_setRow (grown_none (grown_alloc (grown_refl _ _) _) hg3) (.inr (Nat.le_refl _)) _⟩
  · have htI : ¬ (t : Int) < (f : Int) := by omega
    by_cases hf0 : f = 0
    · subst hf0
      have kq : ∀ W, w.grownBy W none → Calls Tryd.prog 16 #[.slice A N c, .int .i64 0, .int .i64 (if (N : Int) < (t : Int) + 1 then (N : Int) else (t : Int) + 1)] W fun e w' => PfAt W (someL ps (0 - 1) (min (max 0 t + 1) N)) e w' := fun W hg => by
        have h := kp W hg
        rw [Int.toNat_natCast, show ((0 - 1 : Nat) : Int) = 0 by omega, show ((min (max 0 t + 1) N : Nat) : Int) = (if (N : Int) < (t : Int) + 1 then (N : Int) else (t : Int) + 1) by split <;> omega] at h
        exact h
      clear kp
      generalize hR : someL ps (0 - 1) (min (max 0 t + 1) N) = R at *
      clear hR
      go_wp2_with (first
        | (go_at_call 14; refine (k1 _ (grown_alloc (grown_refl _ _) _)).mono ?_; clear k1; rintro e w1 ⟨rfl, rfl⟩)
        | (go_at_call 14; refine (k2 _ (grown_alloc (grown_refl _ _) _)).mono ?_; clear k2; rintro e w2 ⟨rfl, rfl⟩)
        | (go_at_call 16; refine (kq _ (grown_alloc (grown_refl _ _) _)).mono ?_; rintro e w3 ⟨A3, c3, B3, d3, rs3, rfl, hp3, hn3, hg3⟩; unfold pfv; have hR3 := keep_of (alloc_at (w := w) (o := .cells #[.int .i64 0, .int .i64 0, .slice none 0 0, .slice none 0 0] 27) rfl) hg3)
        | (refine wpList_store_row rfl 27 _ _ rfl w.heap.size #[.int .i64 R.count, .int .i64 R.first, .slice A3 R.pairs.length c3, .slice B3 R.paths.length d3] rfl rfl 27 _ hR3 size_pf rfl (by simp [Value.oneCell']) ?_))
      all_goals refine bodyPost_ret (results_cell_row rfl _ _ w.heap.size 27 #[.int .i64 R.count, .int .i64 R.first, .slice A3 R.pairs.length c3, .slice B3 R.paths.length d3] (0, 0) _ rfl (setRow_heap _ _ _ _ _ _ hR3) Tryd.underlying27 rfl size_pf) rfl ?_
      all_goals exact ⟨A3, c3, B3, d3, rs3, rfl, hp3.over hn3 (by simp) _, hn3.le (by simp), grown_setRow (grown_none (grown_alloc (grown_refl _ _) _) hg3) (.inr (Nat.le_refl _)) _⟩
    · have hf1 : (1 : Int) ≤ (f : Int) := by omega
      have kq : ∀ W, w.grownBy W none → Calls Tryd.prog 16 #[.slice A N c, .int .i64 ((f : Int) - 1), .int .i64 (if (N : Int) < (t : Int) + 1 then (N : Int) else (t : Int) + 1)] W fun e w' => PfAt W (someL ps (f - 1) (min (max f t + 1) N)) e w' := fun W hg => by
        have h := kp W hg
        rw [Int.toNat_natCast, show ((f - 1 : Nat) : Int) = ((f : Int) - 1) by omega, show ((min (max f t + 1) N : Nat) : Int) = (if (N : Int) < (t : Int) + 1 then (N : Int) else (t : Int) + 1) by split <;> omega] at h
        exact h
      clear kp
      generalize hR : someL ps (f - 1) (min (max f t + 1) N) = R at *
      clear hR
      go_wp2_with (first
        | (go_at_call 14; refine (k1 _ (grown_alloc (grown_refl _ _) _)).mono ?_; clear k1; rintro e w1 ⟨rfl, rfl⟩)
        | (go_at_call 14; refine (k2 _ (grown_alloc (grown_refl _ _) _)).mono ?_; clear k2; rintro e w2 ⟨rfl, rfl⟩)
        | (go_at_call 16; refine (kq _ (grown_alloc (grown_refl _ _) _)).mono ?_; rintro e w3 ⟨A3, c3, B3, d3, rs3, rfl, hp3, hn3, hg3⟩; unfold pfv; have hR3 := keep_of (alloc_at (w := w) (o := .cells #[.int .i64 0, .int .i64 0, .slice none 0 0, .slice none 0 0] 27) rfl) hg3)
        | (refine wpList_store_row rfl 27 _ _ rfl w.heap.size #[.int .i64 R.count, .int .i64 R.first, .slice A3 R.pairs.length c3, .slice B3 R.paths.length d3] rfl rfl 27 _ hR3 size_pf rfl (by simp [Value.oneCell']) ?_))
      all_goals refine bodyPost_ret (results_cell_row rfl _ _ w.heap.size 27 #[.int .i64 R.count, .int .i64 R.first, .slice A3 R.pairs.length c3, .slice B3 R.paths.length d3] (0, 0) _ rfl (setRow_heap _ _ _ _ _ _ hR3) Tryd.underlying27 rfl size_pf) rfl ?_
      all_goals exact ⟨A3, c3, B3, d3, rs3, rfl, hp3.over hn3 (by simp) _, hn3.le (by simp), grown_setRow (grown_none (grown_alloc (grown_refl _ _) _) hg3) (.inr (Nat.le_refl _)) _⟩
end Go.Proofs.YtpeepiboocdnaaaDoor
