/- The package's own calls, part 3: Range, Exist, Absent, Size. -/
import Derived.Test.YtpeepiboocdnaaaDoorPvR
namespace Go.Proofs.YtpeepiboocdnaaaDoor
open Go.RowKit

theorem low_mono {ps : List Kv} (hs : Rises ps) {x y : List UInt8} (h : kl y x = false) : lowN ps x ≤ lowN ps y := by
  rcases Nat.lt_or_ge (lowN ps y) (lowN ps x) with hlt | hge
  · have hle := lowN_le ps x
    have h1 := below_low hs x hlt (by omega)
    have h2 := above_low hs y (Nat.le_refl _) (i := lowN ps y) (by omega)
    rw [kl_lt_of h1 h] at h2; cases h2
  · exact hge
/-- The greater of two keys. -/
def maxK (x y : List UInt8) : List UInt8 := if kl x y then y else x
theorem low_max {ps : List Kv} (hs : Rises ps) (x y : List UInt8) : lowN ps (maxK x y) = max (lowN ps x) (lowN ps y) := by
  unfold maxK
  cases h : kl x y
  · have := low_mono hs h
    simp; omega
  · have := low_mono hs (kl_asymm h)
    simp; omega
theorem max_str (x y : List UInt8) (ts : Array TypeId) (t : TypeId) (w : World) : (Builtin.max_ ts t #[.string ⟨x.toArray⟩, .string ⟨y.toArray⟩]).run Tryd.prog w = .ok (.string ⟨(maxK x y).toArray⟩) w := by
  unfold maxK
  cases h : kl x y <;> simp [Builtin.max_, Builtin.max2, Op.stringOp, asBool, Lib.toList_data, h]
set_option maxRecDepth 100000 in
set_option maxHeartbeats 2000000 in
theorem PRange_any (A : Option Addr) (c : Nat) (ps : List Kv) (x y : List UInt8) (w : World) (hr : RowQ w A c ps) (hk : Laid2 w) :
    Calls Tryd.prog 9 #[.slice A ps.length c, .string ⟨x.toArray⟩, .string ⟨y.toArray⟩] w fun e w' => PfAt w (coverL ps x y) e w' := by
  have hn := hr.hn
  have lx := lowN_le ps x
  have ly := lowN_le ps y
  have hm := low_max hr.up x y
  have k1 := fun W (hg : w.grownBy W none) => First_any A c ps x W (hr.rd.kept hg) (by omega) hr.up
  have k2 := fun W (hg : w.grownBy W none) => First_any A c ps (maxK x y) W (hr.rd.kept hg) (by omega) hr.up
  rw [hm] at k2
  have kS := fun W (hg : w.grownBy W none) => Some_any A c ps ((lowN ps x : Int) - 1) (((max (lowN ps x) (lowN ps y) : Nat) : Int) + 1) W (hr.kept hg) (hk.kept hg) (by omega) (by omega)
  have hmx := max_str x y
  have e1 : ((lowN ps x : Int) - 1).toNat = lowN ps x - 1 := by omega
  have e2 : (((max (lowN ps x) (lowN ps y) : Nat) : Int) + 1).toNat = max (lowN ps x) (lowN ps y) + 1 := by omega
  have hcv : coverL ps x y = someL ps (lowN ps x - 1) (min (max (lowN ps x) (lowN ps y) + 1) ps.length) := rfl
  rw [e1, e2, ← hcv] at kS
  generalize coverL ps x y = R at *
  generalize maxK x y = z at *
  have hMl : max (lowN ps x) (lowN ps y) ≤ 100 := by omega
  clear hm e1 e2 hcv hr hk
  generalize max (lowN ps x) (lowN ps y) = M at *
  generalize lowN ps x = f at *
  generalize ps.length = N at *
  go_enter Tryd.func9, Tryd.ntmps9
  go_wp2_with (first
    | (go_at_call 24; refine (k1 _ (grown_alloc (grown_refl _ _) _)).mono ?_; clear k1; rintro e w1 ⟨rfl, hg1⟩; have hg1' := grown_none (grown_alloc (grown_refl w none) (.cells #[.int .i64 0, .int .i64 0, .slice none 0 0, .slice none 0 0] 27)) hg1)
    | (go_at_call 24; refine (k2 _ hg1').mono ?_; clear k2; rintro e w2 ⟨rfl, hg2⟩)
    | (go_at_call 18; refine (kS _ (grown_none hg1' hg2)).mono ?_; rintro e w3 ⟨A3, c3, B3, d3, rs3, rfl, hp3, hn3, hg3⟩; unfold pfv; have hgo := grown_none hg1 (grown_none hg2 hg3); have hR3 := keep_of (alloc_at (w := w) (o := .cells #[.int .i64 0, .int .i64 0, .slice none 0 0, .slice none 0 0] 27) rfl) hgo)
    | (refine wpList_store_row rfl 27 _ _ rfl w.heap.size #[.int .i64 R.count, .int .i64 R.first, .slice A3 R.pairs.length c3, .slice B3 R.paths.length d3] rfl rfl 27 _ hR3 size_pf rfl (by simp [Value.oneCell']) ?_))
  refine bodyPost_ret (results_cell_row rfl _ _ w.heap.size 27 #[.int .i64 R.count, .int .i64 R.first, .slice A3 R.pairs.length c3, .slice B3 R.paths.length d3] (0, 0) _ rfl (setRow_heap _ _ _ _ _ _ hR3) Tryd.underlying27 rfl size_pf) rfl ?_
  have hs2 := (grown_none hg1' hg2).size
  have hlt : w.heap.size < w2.heap.size := Nat.lt_of_lt_of_le (by have := hg1.size; simp at this; omega) hg2.size
  exact ⟨A3, c3, B3, d3, rs3, rfl, hp3.over hn3 hlt _, hn3.le (by omega), grown_setRow (grown_none (grown_alloc (grown_refl _ _) _) hgo) (.inr (Nat.le_refl _)) _⟩
end Go.Proofs.YtpeepiboocdnaaaDoor
