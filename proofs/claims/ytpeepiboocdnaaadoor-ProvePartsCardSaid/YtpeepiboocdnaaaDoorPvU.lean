/- The package's own calls, part 4: Exist, Absent, Size; all of them as they are asked for. -/
import Derived.Test.YtpeepiboocdnaaaDoorPvS
import Derived.Test.YtpeepiboocdnaaaDoorPvH
namespace Go.Proofs.YtpeepiboocdnaaaDoor
open Go.RowKit

theorem has_low {ps : List Kv} (hs : Rises ps) {k : List UInt8} (h : hasK ps k = true) : lowN ps k < ps.length := by
  by_cases hl : lowN ps k < ps.length
  · exact hl
  · rw [has_end hs k hl] at h; cases h
theorem zeroP_at (w : World) (N : Nat) : IsPf w zeroP none 0 none 0 [] ∧ NewPf N none none [] :=
  ⟨⟨Nat.le_refl _, RdAt.nil, Nat.le_refl _, ⟨RdAt.nil, fun r hr => by cases hr⟩, rfl⟩, ⟨(fun ad e => by cases e), (fun ad e => by cases e), fun r hr => by cases hr⟩⟩

set_option maxRecDepth 100000 in
set_option maxHeartbeats 2000000 in
theorem Exist_any (A : Option Addr) (c : Nat) (ps : List Kv) (x : List UInt8) (w : World) (hr : RowQ w A c ps) (hk : Laid2 w) :
    Calls Tryd.prog 15 #[.slice A ps.length c, .string ⟨x.toArray⟩] w fun e w' => PfBAt w (existL ps x) (hasK ps x) e w' := by
  have hn := hr.hn
  have k1 := fun W (hg : w.grownBy W none) => has_any A c ps x W (hr.rd.kept hg) (by omega) hr.up
  cases hb : hasK ps x
  · have hfin : existL ps x = zeroP := by unfold existL; rw [if_neg (by rw [hb]; decide)]
    rw [hfin]
    rw [hb] at k1
    clear hfin hb hr hk
    generalize ps.length = N at *
    go_enter Tryd.func15, Tryd.ntmps15
    go_wp2_with (first
      | (go_at_call 23; refine (k1 _ (grown_alloc (grown_refl _ _) _)).mono ?_; clear k1; rintro e w1 ⟨rfl, hg1⟩; have hR3 := keep_of (alloc_at (w := w) (o := .cells #[.int .i64 0, .int .i64 0, .slice none 0 0, .slice none 0 0] 27) rfl) hg1)
      | (refine wpList_store_row rfl 27 _ _ rfl w.heap.size #[.int .i64 0, .int .i64 0, .slice none 0 0, .slice none 0 0] rfl rfl 27 _ hR3 size_pf rfl (by simp [Value.oneCell']) ?_))
    refine bodyPost_ret (results_row_tmp rfl _ _ w.heap.size 27 #[.int .i64 0, .int .i64 0, .slice none 0 0, .slice none 0 0] (0, 0) _ rfl (setRow_heap _ _ _ _ _ _ hR3) Tryd.underlying27 rfl size_pf) rfl ?_
    exact ⟨none, 0, none, 0, [], rfl, (zeroP_at _ 0).1, (zeroP_at w _).2, grown_setRow (grown_none (grown_alloc (grown_refl _ _) _) hg1) (.inr (Nat.le_refl _)) _⟩
  · have hl := has_low hr.up hb
    have hfin : existL ps x = someL ps (lowN ps x) (lowN ps x + 1) := by unfold existL; rw [if_pos hb]
    have k2 := fun W (hg : w.grownBy W none) => First_any A c ps x W (hr.rd.kept hg) (by omega) hr.up
    have kS := fun W (hg : w.grownBy W none) => Some_any A c ps (lowN ps x : Nat) ((lowN ps x : Int) + 1) W (hr.kept hg) (hk.kept hg) (by omega) (by omega)
    rw [show ((lowN ps x : Nat) : Int).toNat = lowN ps x by omega, show min ((lowN ps x : Int) + 1).toNat ps.length = lowN ps x + 1 by omega, ← hfin] at kS
    rw [hb] at k1
    have hl100 : lowN ps x ≤ 100 := by omega
    generalize existL ps x = R at *
    clear hfin hb hr hk hl
    generalize lowN ps x = f at *
    generalize ps.length = N at *
    go_enter Tryd.func15, Tryd.ntmps15
    go_wp2_with (first
      | (go_at_call 23; refine (k1 _ (grown_alloc (grown_refl _ _) _)).mono ?_; clear k1; rintro e w1 ⟨rfl, hg1⟩; have hg1' := grown_none (grown_alloc (grown_refl w none) (.cells #[.int .i64 0, .int .i64 0, .slice none 0 0, .slice none 0 0] 27)) hg1)
      | (go_at_call 24; refine (k2 _ hg1').mono ?_; clear k2; rintro e w2 ⟨rfl, hg2⟩)
      | (go_at_call 18; refine (kS _ (grown_none hg1' hg2)).mono ?_; rintro e w3 ⟨A3, c3, B3, d3, rs3, rfl, hp3, hn3, hg3⟩; unfold pfv; have hgo := grown_none hg1 (grown_none hg2 hg3); have hR3 := keep_of (alloc_at (w := w) (o := .cells #[.int .i64 0, .int .i64 0, .slice none 0 0, .slice none 0 0] 27) rfl) hgo)
      | (refine wpList_store_row rfl 27 _ _ rfl w.heap.size #[.int .i64 R.count, .int .i64 R.first, .slice A3 R.pairs.length c3, .slice B3 R.paths.length d3] rfl rfl 27 _ hR3 size_pf rfl (by simp [Value.oneCell']) ?_))
    refine bodyPost_ret (results_row_tmp rfl _ _ w.heap.size 27 #[.int .i64 R.count, .int .i64 R.first, .slice A3 R.pairs.length c3, .slice B3 R.paths.length d3] (0, 0) _ rfl (setRow_heap _ _ _ _ _ _ hR3) Tryd.underlying27 rfl size_pf) rfl ?_
    have hlt : w.heap.size < w2.heap.size := Nat.lt_of_lt_of_le (by have := hg1.size; simp at this; omega) hg2.size
    exact ⟨A3, c3, B3, d3, rs3, rfl, hp3.over hn3 hlt _, hn3.le (by omega), grown_setRow (grown_none (grown_alloc (grown_refl _ _) _) hgo) (.inr (Nat.le_refl _)) _⟩

set_option maxRecDepth 100000 in
set_option maxHeartbeats 2000000 in
theorem Absent_any (A : Option Addr) (c : Nat) (ps : List Kv) (x : List UInt8) (w : World) (hr : RowQ w A c ps) (hk : Laid2 w) :
    Calls Tryd.prog 8 #[.slice A ps.length c, .string ⟨x.toArray⟩] w fun e w' => PfBAt w (absentL ps x) (!hasK ps x) e w' := by
  have hn := hr.hn
  have k1 := fun W (hg : w.grownBy W none) => has_any A c ps x W (hr.rd.kept hg) (by omega) hr.up
  cases hb : hasK ps x
  · have hfin : absentL ps x = coverL ps x x := by unfold absentL; rw [if_neg (by rw [hb]; decide)]
    have kS := fun W (hg : w.grownBy W none) => PRange_any A c ps x x W (hr.kept hg) (hk.kept hg)
    rw [← hfin] at kS
    rw [hb] at k1
    generalize absentL ps x = R at *
    clear hfin hb hr hk
    generalize ps.length = N at *
    go_enter Tryd.func8, Tryd.ntmps8
    go_wp2_with (first
      | (go_at_call 23; refine (k1 _ (grown_alloc (grown_refl _ _) _)).mono ?_; clear k1; rintro e w1 ⟨rfl, hg1⟩; have hg1' := grown_none (grown_alloc (grown_refl w none) (.cells #[.int .i64 0, .int .i64 0, .slice none 0 0, .slice none 0 0] 27)) hg1)
      | (go_at_call 9; refine (kS _ hg1').mono ?_; rintro e w3 ⟨A3, c3, B3, d3, rs3, rfl, hp3, hn3, hg3⟩; unfold pfv; have hgo := grown_none hg1 hg3; have hR3 := keep_of (alloc_at (w := w) (o := .cells #[.int .i64 0, .int .i64 0, .slice none 0 0, .slice none 0 0] 27) rfl) hgo)
      | (refine wpList_store_row rfl 27 _ _ rfl w.heap.size #[.int .i64 R.count, .int .i64 R.first, .slice A3 R.pairs.length c3, .slice B3 R.paths.length d3] rfl rfl 27 _ hR3 size_pf rfl (by simp [Value.oneCell']) ?_))
    refine bodyPost_ret (results_row_tmp rfl _ _ w.heap.size 27 #[.int .i64 R.count, .int .i64 R.first, .slice A3 R.pairs.length c3, .slice B3 R.paths.length d3] (0, 0) _ rfl (setRow_heap _ _ _ _ _ _ hR3) Tryd.underlying27 rfl size_pf) rfl ?_
    have hlt : w.heap.size < w1.heap.size := by have := hg1.size; simp at this; omega
    exact ⟨A3, c3, B3, d3, rs3, rfl, hp3.over hn3 hlt _, hn3.le (by omega), grown_setRow (grown_none (grown_alloc (grown_refl _ _) _) hgo) (.inr (Nat.le_refl _)) _⟩
  · have hfin : absentL ps x = zeroP := by unfold absentL; rw [if_pos hb]
    rw [hfin]
    rw [hb] at k1
    clear hfin hb hr hk
    generalize ps.length = N at *
    go_enter Tryd.func8, Tryd.ntmps8
    go_wp2_with (first
      | (go_at_call 23; refine (k1 _ (grown_alloc (grown_refl _ _) _)).mono ?_; clear k1; rintro e w1 ⟨rfl, hg1⟩; have hR3 := keep_of (alloc_at (w := w) (o := .cells #[.int .i64 0, .int .i64 0, .slice none 0 0, .slice none 0 0] 27) rfl) hg1)
      | (refine wpList_store_row rfl 27 _ _ rfl w.heap.size #[.int .i64 0, .int .i64 0, .slice none 0 0, .slice none 0 0] rfl rfl 27 _ hR3 size_pf rfl (by simp [Value.oneCell']) ?_))
    refine bodyPost_ret (results_row_tmp rfl _ _ w.heap.size 27 #[.int .i64 0, .int .i64 0, .slice none 0 0, .slice none 0 0] (0, 0) _ rfl (setRow_heap _ _ _ _ _ _ hR3) Tryd.underlying27 rfl size_pf) rfl ?_
    exact ⟨none, 0, none, 0, [], rfl, (zeroP_at _ 0).1, (zeroP_at w _).2, grown_setRow (grown_none (grown_alloc (grown_refl _ _) _) hg1) (.inr (Nat.le_refl _)) _⟩

set_option maxRecDepth 100000 in
set_option maxHeartbeats 2000000 in
theorem Size_any {w : World} {P : Pf} {A : Option Addr} {c : Nat} {B : Option Addr} {d : Nat} {rs : List Ph} (h : IsPf w P A c B d rs) (h1 : P.pairs.length ≤ 1000) (h2 : P.paths.length ≤ 1000) (h3 : ∀ x ∈ P.paths, x.length ≤ 32000) :
    Calls Tryd.prog 10 #[pfv P A c B d] w fun e w' => e = .returned (.int .i64 (sizeL P : Nat)) ∧ w.grownBy w' none := by
  have hsz := cntP_size h
  have hl := h.len
  have hle : ∀ r ∈ rs, r.2.2.1 ≤ 1000 := fun r hr => by
    have e1 := (h.rp.2 r hr).len
    have e2 := h3 r.2.1 (by rw [← h.ps]; exact List.mem_map.2 ⟨r, hr, rfl⟩)
    omega
  have hrp := h.rp
  unfold pfv
  rw [hsz]
  clear hsz h h3
  generalize P.pairs.length = np at *
  generalize P.paths.length = nq at *
  generalize P.count = pc at *
  generalize P.first = pf at *
  go_enter Tryd.func10, Tryd.ntmps10
  go_upto_region 1 with (fail)
  obtain ⟨W, hW⟩ : ∃ W, W = w.alloc (.cells #[.int .i64 pc, .int .i64 pf, .slice A np c, .slice B nq d] 27) := ⟨_, rfl⟩
  rw [← hW]
  have hb : W.heap[w.heap.size]? = some (.cells #[.int .i64 pc, .int .i64 pf, .slice A np c, .slice B nq d] 27 (0, 0)) := by rw [hW]; exact alloc_at rfl
  have hgW : w.grownBy W none := by rw [hW]; exact grown_alloc (grown_refl _ _) _
  replace hrp := hrp.kept hgW
  have c2 : W.cell? ⟨w.heap.size, 2, none⟩ = some (.slice A np c) := by rw [cell_of_row W _ 2 _ _ _ hb]; rfl
  have c3 : W.cell? ⟨w.heap.size, 3, none⟩ = some (.slice B nq d) := by rw [cell_of_row W _ 3 _ _ _ hb]; rfl
  clear hW hb
  go_wp2_with fail
  go_loopw [3, 12] (fun s t wr => ∃ k : Nat, k ≤ nq ∧ t = .int .i64 (k : Int) ∧ s = .int .i64 ((np : Int) + (cntP (rs.take k) : Nat)) ∧ W = wr) (fun _ t _ => nq - (intOf t).toNat)
  case atStart => exact ⟨0, Nat.zero_le _, rfl, by simp [cntP], rfl⟩
  case round =>
    obtain ⟨k, hkn, rfl, rfl, rfl⟩ := hrel
    by_cases hlt : k < nq
    · have q1 : (k : Int) < (nq : Int) := by omega
      obtain ⟨ad1, rfl, hc1, ho1⟩ := RdPs.get hrp (k := k) (by omega)
      have hct := cntP_take rs k (by omega)
      have hlek := hle rs[k] (List.getElem_mem _)
      have hcl := cntP_le (rs.take k) (fun r hr => hle r (List.mem_of_mem_take hr))
      rw [List.length_take] at hcl
      generalize rs[k] = ra at *
      obtain ⟨Aa, Pa, na, ca⟩ := ra
      unfold hv at hc1
      dsimp only at hc1 hct hlek
      have hid1 := fun W => idx_Hs ad1 nq d k hlt W
      have HT := Lib.hid hct
      clear hct ho1
      generalize cntP (rs.take k) = S at *
      go_wp2
      go_roundw
      case rel => exact ⟨k + 1, by omega, by go_num, by rw [HT.out]; congr 1; omega, trivial⟩
      case measure => simp [intOf]; omega
    · have q1 : ¬ (k : Int) < (nq : Int) := by omega
      obtain rfl : k = nq := by omega
      have hfin : cntP (rs.take k) = cntP rs := by rw [List.take_of_length_le (by omega)]
      rw [hfin]
      go_wp2_with fail
      go_ret
      exact ⟨ret_int (by omega), hgW⟩
theorem proveK : ProveK := ⟨fun f t hr hk hf ht => Some_any _ _ _ f t _ hr hk hf ht, fun x y hr hk => PRange_any _ _ _ x y _ hr hk, fun x hr hk => Exist_any _ _ _ x _ hr hk, fun x hr hk => Absent_any _ _ _ x _ hr hk, fun h h1 h2 h3 => Size_any h h1 h2 h3⟩
end Go.Proofs.YtpeepiboocdnaaaDoor
