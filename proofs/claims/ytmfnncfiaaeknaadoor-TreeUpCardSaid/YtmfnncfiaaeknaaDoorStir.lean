/- One more block: the contract of package sha's stir. -/
import Derived.Test.YtmfnncfiaaeknaaDoorSpread
namespace Go.Proofs.YtmfnncfiaaeknaaDoor
open Go.RowKit

/-- The package's variables read as the text lays them. -/
def LaidK (w : World) : Prop := RdAt w (some ⟨1, 0, none⟩) (keysL.map wv)
def LaidS (w : World) : Prop := RdAt w (some ⟨0, 0, none⟩) (start.cells.map wv)
theorem LaidK.kept {w w' : World} (h : LaidK w) (hg : w.grownBy w' none) : LaidK w' := RdAt.kept h hg
theorem LaidS.kept {w w' : World} (h : LaidS w) (hg : w.grownBy w' none) : LaidS w' := RdAt.kept h hg
theorem add_zero_pos (g k : Nat) : (⟨g, 0, none⟩ : Addr).add k = ⟨g, k, none⟩ := by
  unfold Addr.add; split <;> simp_all
theorem LaidS.cells {w : World} (h : LaidS w) : ∀ j u, (start.cells.map wv)[j]? = some u → w.cell? ((⟨0, 0, none⟩ : Addr).add j) = some u := by
  rcases h with h | ⟨ad, e, hc⟩
  · cases h
  · cases e; exact hc
theorem LaidK.get {w : World} (h : LaidK w) {k : Nat} (hk : k < 64) : w.cell? ⟨1, k, none⟩ = some (.int .u32 ((keysL.getD k 0).toNat : Int)) := by
  have hk' : k < (keysL.map wv).length := hk
  obtain ⟨ad, e, hc⟩ := RdAt.get h (k := k) hk'
  cases e
  rw [add_zero_pos] at hc
  rw [hc, getD_at keysL k 0 hk, List.getElem_map]
  rfl

theorem size_st : (Tryd.prog.info? 72).map (·.size) = some 8 := by kernel_rfl
/-- A state as a value. -/
def stV (s : St) : Value := .agg #[.int .u32 (s.a.toNat : Int), .int .u32 (s.b.toNat : Int), .int .u32 (s.c.toNat : Int), .int .u32 (s.d.toNat : Int), .int .u32 (s.e.toNat : Int), .int .u32 (s.f.toNat : Int), .int .u32 (s.g.toNat : Int), .int .u32 (s.h.toNat : Int)]

set_option maxRecDepth 100000 in
set_option maxHeartbeats 2000000 in
theorem stir_any (s : St) (A : Option Addr) (b : List UInt8) (c : Nat) (w : World) (hk : LaidK w) (hr : RdB w A b) (hl : b.length = 64) (hc : 64 ≤ c) :
    Calls Tryd.prog 49 #[stV s, .slice A 64 c] w fun e w' => e = .returned (stV (stir s b)) ∧ w.grownBy w' none := by
  have hsp := fun w' (h : RdB w' A b) => spread_any A b c w' h hl hc
  obtain ⟨X, hX⟩ : ∃ X, X = sched b 48 := ⟨_, rfl⟩
  have hXl : X.length = 64 := by rw [hX]; exact sched_len b 48
  rw [← hX] at hsp
  have hst : stir s b = s.add (rounds X s 64) := by rw [hX]; rfl
  rw [hst]
  clear hst
  have HX := Lib.hid hX
  have HL := Lib.hid hXl
  clear hX hXl
  have hs64 : (Tryd.prog.info? 77).map (·.size) = some (X.map wv).toArray.size := by rw [List.size_toArray, List.length_map, HL.out]; exact size_64
  have HS := Lib.hid hs64
  clear hs64
  unfold stV
  go_enter Tryd.func49, Tryd.ntmps49
  go_wp2_with (first | (go_at_call 54; refine (hsp _ ((hr.alloc _).alloc _)).mono ?_; rintro e w1 ⟨rfl, hg1⟩) | ((refine wpList_store_row rfl 77 _ _ rfl w1.heap.size (X.map wv).toArray rfl rfl 77 _ (heap_alloc_new _ _) HS.out (by rw [show (X.map wv).toArray.size = 64 from by rw [List.size_toArray, List.length_map, HL.out]]; rfl) (wv_all _) ?_); generalize hw2 : World.setRow _ _ _ = w2; have HW2 := Lib.hid hw2; clear hw2))
  have hq0 : Hid (w2.heap[w.heap.size]? = some (.cells #[.int .u32 (s.a.toNat : Int), .int .u32 (s.b.toNat : Int), .int .u32 (s.c.toNat : Int), .int .u32 (s.d.toNat : Int), .int .u32 (s.e.toNat : Int), .int .u32 (s.f.toNat : Int), .int .u32 (s.g.toNat : Int), .int .u32 (s.h.toNat : Int)] 72 (0, 0))) := by
    show _ = _
    rw [← HW2.out, setRow_other _ _ _ _ (by have := hg1.size; simp at this; omega), Below.heap_alloc _ _ _ (by have := hg1.size; simp at this; omega), hg1.block _ (by simp; omega) (by simp)]
    exact heap_alloc_1 _ _ _
  have hq1 : Hid (w2.heap[w.heap.size + 1]? = some (.cells #[.int .u32 0, .int .u32 0, .int .u32 0, .int .u32 0, .int .u32 0, .int .u32 0, .int .u32 0, .int .u32 0] 72 (0, 0))) := by
    show _ = _
    rw [← HW2.out, setRow_other _ _ _ _ (by have := hg1.size; simp at this; omega), Below.heap_alloc _ _ _ (by have := hg1.size; simp at this; omega), hg1.block _ (by rw [show ((w.alloc _).alloc _).heap.size = w.heap.size + 2 from by simp]; omega) (by simp)]
    exact heap_alloc_2 _ _ _
  have hq2 : Hid (w2.heap[w1.heap.size]? = some (.cells (X.map wv).toArray 77 (0, 0))) := by
    show _ = _
    rw [← HW2.out]
    exact setRow_heap _ _ _ _ _ _ (heap_alloc_new _ _)
  have hg : w.grownBy w2 none := by
    rw [← HW2.out]
    exact grown_setRow (grown_alloc (grown_same (grown_alloc (grown_alloc (grown_refl _ _) _) _) hg1) _) (.inr (by have := hg1.size; simp at this; omega)) _
  have hm : Hid (w.heap.size + 2 ≤ w1.heap.size) := by have := hg1.size; simp at this; exact this
  clear HW2 hsp hg1
  have hc0 : ∀ j u, #[.int .u32 (s.a.toNat : Int), .int .u32 (s.b.toNat : Int), .int .u32 (s.c.toNat : Int), .int .u32 (s.d.toNat : Int), .int .u32 (s.e.toNat : Int), .int .u32 (s.f.toNat : Int), .int .u32 (s.g.toNat : Int), .int .u32 (s.h.toNat : Int)][j]? = some u → w2.cell? ⟨w.heap.size, j, none⟩ = some u := fun j u hu => by
    rw [cell_of_row w2 _ _ _ _ _ hq0.out]; exact hu
  have c0 := hc0 0 _ rfl
  have c1 := hc0 1 _ rfl
  have c2 := hc0 2 _ rfl
  have c3 := hc0 3 _ rfl
  have c4 := hc0 4 _ rfl
  have c5 := hc0 5 _ rfl
  have c6 := hc0 6 _ rfl
  have c7 := hc0 7 _ rfl
  clear hc0
  go_wp2
  go_quiet (fail)
  go_wp2
  go_loopw [6, 7, 8, 9, 10, 11, 12, 13, 35] (fun xa xb xc xd xe xf xg xh i wr => ∃ k : Nat, k ≤ 64 ∧ i = .int .i64 k ∧ xa = .int .u32 ((rounds X s k).a.toNat : Int) ∧ xb = .int .u32 ((rounds X s k).b.toNat : Int) ∧ xc = .int .u32 ((rounds X s k).c.toNat : Int) ∧ xd = .int .u32 ((rounds X s k).d.toNat : Int) ∧ xe = .int .u32 ((rounds X s k).e.toNat : Int) ∧ xf = .int .u32 ((rounds X s k).f.toNat : Int) ∧ xg = .int .u32 ((rounds X s k).g.toNat : Int) ∧ xh = .int .u32 ((rounds X s k).h.toNat : Int) ∧ w2.grownBy wr none) (fun _ _ _ _ _ _ _ _ i _ => 64 - (intOf i).toNat)
  case atStart => exact ⟨0, by omega, rfl, rfl, rfl, rfl, rfl, rfl, rfl, rfl, rfl, grown_drewN (grown_refl _ _) _⟩
  case round =>
    obtain ⟨k, hk64, rfl, rfl, rfl, rfl, rfl, rfl, rfl, rfl, rfl, hgr⟩ := hrel
    by_cases hlt : k < 64
    · have ck := LaidK.get ((hk.kept hg).kept hgr) hlt
      have cw : wr.cell? ⟨w1.heap.size, k, none⟩ = some (.int .u32 ((X.getD k 0).toNat : Int)) := by
        rw [grown_cell hgr (Array.getElem?_eq_some_iff.1 hq2.out).1 (by simp), cell_of_row w2 _ _ _ _ _ hq2.out, List.getElem?_toArray, List.getElem?_map, List.getElem?_eq_getElem (by rw [HL.out]; exact hlt), getD_at X k 0 (by rw [HL.out]; exact hlt)]
        rfl
      obtain ⟨K, hK⟩ : ∃ K, K = keysL.getD k 0 := ⟨_, rfl⟩
      obtain ⟨Y, hY⟩ : ∃ Y, Y = X.getD k 0 := ⟨_, rfl⟩
      obtain ⟨r, hr⟩ : ∃ r, r = rounds X s k := ⟨_, rfl⟩
      rw [← hK] at ck
      rw [← hY] at cw
      rw [← hr]
      have HK := Lib.hid hK
      have HY := Lib.hid hY
      have HR := Lib.hid hr
      clear hK hY hr
      have k64 : (k : Int) < 64 := by omega
      have r0 := bits_xor
      have r1 := bits_and
      have r2 := wrap_add
      have r3 := add_w
      have r4 := bits_not
      go_wp2
      go_quiet (first | (go_at_call 55; refine Calls.quiet_of_same (turned_m _ _ _ _ _ (by omega) (by omega) (by omega))))
      go_wp2_with (first | (go_at_call 55; refine (turned_m _ _ _ _ _ (by omega) (by omega) (by omega)).mono ?_; rintro e w' ⟨rfl, rfl⟩))
      go_roundw
      case rel => exact ⟨k + 1, by omega, by go_num, by rw [rounds, ← HK.out, ← HY.out, ← HR.out]; rfl, by rw [rounds, ← HK.out, ← HY.out, ← HR.out]; rfl, by rw [rounds, ← HK.out, ← HY.out, ← HR.out]; rfl, by rw [rounds, ← HK.out, ← HY.out, ← HR.out]; rfl, by rw [rounds, ← HK.out, ← HY.out, ← HR.out]; rfl, by rw [rounds, ← HK.out, ← HY.out, ← HR.out]; rfl, by rw [rounds, ← HK.out, ← HY.out, ← HR.out]; rfl, by rw [rounds, ← HK.out, ← HY.out, ← HR.out]; rfl, grown_drewN hgr _⟩
      case measure => simp [intOf]; omega
    · have hk64' : k = 64 := by omega
      subst hk64'
      obtain ⟨r, hr⟩ : ∃ r, r = rounds X s 64 := ⟨_, rfl⟩
      rw [← hr]
      have HR := Lib.hid hr
      clear hr
      rw [← grown_cell hgr (a := ⟨w.heap.size, 0, none⟩) (by have := (Array.getElem?_eq_some_iff.1 hq0.out).1; exact this) (by simp)] at c0
      rw [← grown_cell hgr (a := ⟨w.heap.size, 1, none⟩) (by have := (Array.getElem?_eq_some_iff.1 hq0.out).1; exact this) (by simp)] at c1
      rw [← grown_cell hgr (a := ⟨w.heap.size, 2, none⟩) (by have := (Array.getElem?_eq_some_iff.1 hq0.out).1; exact this) (by simp)] at c2
      rw [← grown_cell hgr (a := ⟨w.heap.size, 3, none⟩) (by have := (Array.getElem?_eq_some_iff.1 hq0.out).1; exact this) (by simp)] at c3
      rw [← grown_cell hgr (a := ⟨w.heap.size, 4, none⟩) (by have := (Array.getElem?_eq_some_iff.1 hq0.out).1; exact this) (by simp)] at c4
      rw [← grown_cell hgr (a := ⟨w.heap.size, 5, none⟩) (by have := (Array.getElem?_eq_some_iff.1 hq0.out).1; exact this) (by simp)] at c5
      rw [← grown_cell hgr (a := ⟨w.heap.size, 6, none⟩) (by have := (Array.getElem?_eq_some_iff.1 hq0.out).1; exact this) (by simp)] at c6
      rw [← grown_cell hgr (a := ⟨w.heap.size, 7, none⟩) (by have := (Array.getElem?_eq_some_iff.1 hq0.out).1; exact this) (by simp)] at c7
      have hq1' : Hid (wr.heap[w.heap.size + 1]? = some (.cells #[.int .u32 0, .int .u32 0, .int .u32 0, .int .u32 0, .int .u32 0, .int .u32 0, .int .u32 0, .int .u32 0] 72 (0, 0))) := by
        show _ = _
        rw [hgr.block _ (Array.getElem?_eq_some_iff.1 hq1.out).1 (by simp)]
        exact hq1.out
      have r2 := wrap_add
      have r3 := add_w
      go_wp2_with ((refine wpList_store_row rfl 72 _ _ rfl (w.heap.size + 1) #[Value.int .u32 ((pW s.a r.a).toNat : Int), Value.int .u32 ((pW s.b r.b).toNat : Int), Value.int .u32 ((pW s.c r.c).toNat : Int), Value.int .u32 ((pW s.d r.d).toNat : Int), Value.int .u32 ((pW s.e r.e).toNat : Int), Value.int .u32 ((pW s.f r.f).toNat : Int), Value.int .u32 ((pW s.g r.g).toNat : Int), Value.int .u32 ((pW s.h r.h).toNat : Int)] rfl rfl 72 _ hq1'.out size_st rfl (wv_all [pW s.a r.a, pW s.b r.b, pW s.c r.c, pW s.d r.d, pW s.e r.e, pW s.f r.f, pW s.g r.g, pW s.h r.h]) ?_))
      refine bodyPost_ret (results_cell_row rfl _ _ (w.heap.size + 1) 72 #[Value.int .u32 ((pW s.a r.a).toNat : Int), Value.int .u32 ((pW s.b r.b).toNat : Int), Value.int .u32 ((pW s.c r.c).toNat : Int), Value.int .u32 ((pW s.d r.d).toNat : Int), Value.int .u32 ((pW s.e r.e).toNat : Int), Value.int .u32 ((pW s.f r.f).toNat : Int), Value.int .u32 ((pW s.g r.g).toNat : Int), Value.int .u32 ((pW s.h r.h).toNat : Int)] (0, 0) _ rfl (setRow_heap _ _ _ _ _ _ hq1'.out) Tryd.underlying72 rfl size_st) rfl ?_
      exact ⟨by rw [HR.out]; rfl, grown_setRow (grown_same hg hgr) (.inr (by omega)) _⟩
end Go.Proofs.YtmfnncfiaaeknaaDoor
