/- Chapter 5's runs. -/
import Derived.Test.YtohdifimfhdhoaaDoorRingV
import Derived.Test.YtohdifimfhdhoaaDoorRingI
namespace Go.Proofs.YtohdifimfhdhoaaDoor
open Go.RowKit

theorem wp_fieldV {P : Program} {o : Oper} {a : Act} {w : World} {K : Act → World → Prop} {Q : Exit → Act → World → Prop} {t : TypeId} {x : Operand} {k : Nat} {xv v : Value} (ho : o.op = .field t x k) (hx : a.eval x = xv) (hrun : ∀ w, (Instr.field t xv k).run P w = .ok v w) (h : K (a.put o.dst v) w) : Oper.wp P o a w K Q := by
  unfold Oper.wp execOp
  simp only [ho, hx, Sem.run_bind, hrun, Result.andThen_ok, Sem.run_pure]
  exact h
theorem field_S0 (n : Int) (a b c : Value) (w : World) : (Instr.field 28 (.agg #[.int .i64 n, a, b, c]) 0).run Tryd.prog w = .ok (.int .i64 n) w := by kernel_rfl
def xaS (t : Nat) : Bool := t == 0 || t == 13 || t == 14 || t == 15 || t == 16 || t == 17 || t == 18 || t == 19 || t == 20 || t == 21 || t == 22 || t == 23 || t == 24 || t == 25 || t == 26 || t == 27 || t == 28 || t == 29 || t == 30 || t == 31 || t == 32 || t == 33 || t == 34 || t == 35 || t == 36 || t == 37 || t == 38 || t == 39 || t == 40
def xaDie (k : Nat) : Nat := if k = 1 then 2 else if k = 7 then 8 else if k = 16 then 17 else 99
def xaOwn (k : Nat) : Bool := k == 1 || k == 2 || k == 7 || k == 8 || k == 16 || k == 17
def xaAl (k : Nat) : Bool := k == 3 || k == 9 || k == 18
def xaF (X Y : List UInt8) (g1 c1 g2 c2 g3 c3 : Nat) : Nat → Value → World → Prop
  | 0 => fun v _ => v = (.agg (X.map bv).toArray)
  | 1 => LitB [120] 1
  | 2 => ConB [120] 1
  | 3 => fun v _ => v = (.agg #[.int .i64 3, .slice (some ⟨g1, 0, none⟩) 32 c1, .slice (some ⟨g2, 0, none⟩) 32 c2, .slice (some ⟨g3, 0, none⟩) 4 c3])
  | 4 => fun v _ => v = .bool true
  | 5 => fun v _ => v = .bool true
  | 6 => fun v _ => v = (.agg (X.map bv).toArray)
  | 7 => LitB [120] 1
  | 8 => ConB [120] 1
  | 9 => fun v _ => v = (.agg #[.int .i64 3, .slice (some ⟨g1, 0, none⟩) 32 c1, .slice (some ⟨g2, 0, none⟩) 32 c2, .slice (some ⟨g3, 0, none⟩) 4 c3])
  | 10 => fun v _ => v = .bool false
  | 11 => fun v _ => v = .bool true
  | 12 => fun v _ => v = .bool true
  | 13 => fun v _ => v = .bool true
  | 14 => fun v _ => v = (.agg (seed8.map bv).toArray)
  | 15 => fun v _ => v = (.agg (Y.map bv).toArray)
  | 16 => LitB [120] 1
  | 17 => ConB [120] 1
  | 18 => fun v _ => v = (.agg #[.int .i64 3, .slice (some ⟨g1, 0, none⟩) 32 c1, .slice (some ⟨g2, 0, none⟩) 32 c2, .slice (some ⟨g3, 0, none⟩) 4 c3])
  | 19 => fun v _ => v = .bool false
  | 20 => fun v _ => v = .bool true
  | 21 => fun v _ => v = .bool true
  | 22 => fun v _ => v = .bool true
  | 23 => fun v _ => v = (.agg (seed7.map bv).toArray)
  | 24 => fun v _ => v = (.agg #[.int .i64 0, .slice none 0 0, .slice none 0 0, .slice none 0 0])
  | 25 => fun v _ => v = .int .i64 0
  | 26 => fun v _ => v = .bool true
  | 27 => fun v _ => v = .bool true
  | 28 => fun v _ => v = .bool true
  | _ => fun _ _ => True
theorem xaF_lasts (X Y : List UInt8) (g1 c1 g2 c2 g3 c3 : Nat) : ∀ kq, LastsB xaAl kq (xaF X Y g1 c1 g2 c2 g3 c3 kq)
  | 0 => LastsB.val _
  | 1 => LastsB.litB rfl _ _
  | 2 => LastsB.conB rfl _ _
  | 3 => LastsB.val _
  | 4 => LastsB.val _
  | 5 => LastsB.val _
  | 6 => LastsB.val _
  | 7 => LastsB.litB rfl _ _
  | 8 => LastsB.conB rfl _ _
  | 9 => LastsB.val _
  | 10 => LastsB.val _
  | 11 => LastsB.val _
  | 12 => LastsB.val _
  | 13 => LastsB.val _
  | 14 => LastsB.val _
  | 15 => LastsB.val _
  | 16 => LastsB.litB rfl _ _
  | 17 => LastsB.conB rfl _ _
  | 18 => LastsB.val _
  | 19 => LastsB.val _
  | 20 => LastsB.val _
  | 21 => LastsB.val _
  | 22 => LastsB.val _
  | 23 => LastsB.val _
  | 24 => LastsB.val _
  | 25 => LastsB.val _
  | 26 => LastsB.val _
  | 27 => LastsB.val _
  | 28 => LastsB.val _
  | _ + 29 => fun _ _ _ _ _ _ _ => trivial

set_option maxRecDepth 100000 in
set_option maxHeartbeats 1000000 in
theorem RingRuns_any (W0 : World) (hk : Laid2 W0) :
    Calls Tryd.prog 3 #[] W0 fun e w' => e = .returned (.bool true) ∧ W0.grownBy w' none := by
  have hsg := fun A w' (h : Laid2 w') (hr : RdB w' A [120]) => (show Calls Tryd.prog 8 #[.agg (seed7.map bv).toArray, .int .i64 3, .slice A 1 1] w' (fun e w'' => SigR w' seed7 [120] 2 e w'') from Sign_in seed7 rfl 2 (by omega) A [120] 1 w' h hr (by simp))
  have hid7 := fun w' (h : Laid2 w') => Ident_any seed7 rfl w' h
  have hid8 := fun w' (h : Laid2 w') => Ident_any seed8 rfl w' h
  have hs0 := fun w' => Sign_no seed7 0 (by omega) none 0 0 w'
  obtain ⟨X, hX⟩ : ∃ X, X = identR seed7 := ⟨_, rfl⟩
  obtain ⟨Y, hY⟩ : ∃ Y, Y = identR seed8 := ⟨_, rfl⟩
  have hXl : Hid (X.length = 32) := by rw [hX]; exact identR_len _
  have hYl : Hid (Y.length = 32) := by rw [hY]; exact identR_len _
  have hu : Hid (upL (whoF [120] (openF (seedR seed7 3) [120]) (shutF (seedR seed7 3) [120])) 2 16 (pathR seed7 2) 4 = X) := by
    show _ = _
    rw [whoF_sign, hX]
    exact up_ident seed7 2 (by omega)
  have hne : Hid (X ≠ Y) := by show X ≠ Y; rw [hX, hY]; exact ident_ne
  rw [← hX] at hid7
  rw [← hY] at hid8
  clear hX hY
  go_enter Tryd.func3, Tryd.ntmps3
  have hcv := conv_const
  have nf : ∀ (w : World) (C : Array Value) (t : TypeId) (fr : Nat × Nat), (w.alloc (.cells C t fr)).heap[w.heap.size]? = some (.cells C t fr) := fun w C t fr => heap_alloc_new _ _
  go_upto_region 4 with (first
    | (refine wpList_store_row rfl 23 _ _ rfl (W0.heap.size) (seed7.map bv).toArray rfl rfl 23 _ (alloc_old (alloc_at rfl)) (hashV_size _ rfl) rfl (bv_all' _) ?_; generalize hU1 : World.setRow _ _ _ = U1; have hA1 : U1.heap[W0.heap.size]? = some (.cells (seed7.map bv).toArray 23 (0, 0)) := (by rw [← hU1]; exact setRow_heap _ _ _ _ _ _ (alloc_old (alloc_at rfl))); have hB1 : U1.heap[W0.heap.size + 1]? = some (.cells (rowH []) 23 (0, 0)) := (by rw [← hU1]; exact (setRow_other _ _ _ _ (by omega)).trans (alloc_at (by simp))); have hgU1 : W0.grownBy U1 none := (by rw [← hU1]; exact grown_setRow (grown_alloc (grown_alloc (grown_refl _ _) _) _) (.inr (Nat.le_refl _)) _); clear hU1)
    | (refine wpList_store_row rfl 23 _ _ rfl (W0.heap.size + 1) (seed8.map bv).toArray rfl rfl 23 _ hB1 (hashV_size _ rfl) rfl (bv_all' _) ?_; generalize hU2 : World.setRow U1 _ _ = U2; have hA2 : U2.heap[W0.heap.size]? = some (.cells (seed7.map bv).toArray 23 (0, 0)) := (by rw [← hU2]; exact (setRow_other _ _ _ _ (by omega)).trans hA1); have hB2 : U2.heap[W0.heap.size + 1]? = some (.cells (seed8.map bv).toArray 23 (0, 0)) := (by rw [← hU2]; exact setRow_heap _ _ _ _ _ _ hB1); have hgU2 : W0.grownBy U2 none := (by rw [← hU2]; exact grown_setRow hgU1 (.inr (by omega)) _); clear hU2 hA1 hB1 hgU1)
    | (refine wpList_load_row rfl 23 _ rfl W0.heap.size rfl _ (seed7.map bv).toArray (0, 0) _ hA2 Tryd.underlying23 rfl (hashV_size _ rfl) ?_)
    | (go_at_call 8; refine (hsg _ _ (hk.kept (grown_alloc hgU2 _)) (rd_row (cs := ([120] : List UInt8).map bv) (nf _ _ _ _))).mono ?_; rintro e w6 ⟨v, rfl, ⟨g1, c1, g2, c2, g3, c3, rfl, a1, a2, a3, a4, a5, a6, r1, r2, r3, n1, n2, n3⟩, hg6⟩)
    | (refine wpList_store_row rfl 28 _ _ rfl (w6.heap.size) #[.int .i64 3, .slice (some ⟨g1, 0, none⟩) 32 c1, .slice (some ⟨g2, 0, none⟩) 32 c2, .slice (some ⟨g3, 0, none⟩) 4 c3] rfl rfl 28 _ (alloc_at rfl) size_sig rfl (sig_all _ _ _ _ rfl rfl rfl rfl) ?_; generalize hU3 : World.setRow _ _ _ = U3; have HU3 := new_hash hU3; clear hU3; have hS3 := HU3.1; have hgU3 : U2.grownBy U3 none := grown_same (grown_same (grown_alloc (grown_refl _ _) _) hg6) HU3.2; have r13 := r1.kept HU3.2; have r23 := r2.kept HU3.2; have r33 := r3.kept HU3.2; clear HU3)
    | (refine wpList_load_row rfl 23 _ rfl W0.heap.size rfl _ (seed7.map bv).toArray (0, 0) _ (keep_of hA2 hgU3) Tryd.underlying23 rfl (hashV_size _ rfl) ?_)
    | (go_at_call 9; refine (hid7 _ (hk.kept (grown_same hgU2 hgU3))).mono ?_; rintro e w8 ⟨rfl, hg8⟩)
    | (refine wpList_store_row rfl 23 _ _ rfl (w8.heap.size) (X.map bv).toArray rfl rfl 23 _ (alloc_at rfl) (hashV_size _ hXl.out) (by rw [show (X.map bv).toArray.size = 32 from by rw [List.size_toArray, List.length_map, hXl.out]]; rfl) (bv_all' _) ?_; generalize hU4 : World.setRow _ _ _ = U4; have HU4 := new_hash hU4; clear hU4))
  have hX4 := HU4.1
  have hgU4 : U3.grownBy U4 none := grown_same hg8 HU4.2
  have hA4 := keep_of (keep_of hA2 hgU3) hgU4
  have hB4 := keep_of (keep_of hB2 hgU3) hgU4
  have hS4 := keep_of hS3 hgU4
  have r14 := r13.kept hgU4
  have r24 := r23.kept hgU4
  have r34 := r33.kept hgU4
  have hgW : W0.grownBy U4 none := grown_same (grown_same hgU2 hgU3) hgU4
  replace hk := hk.kept hgW
  have hver : ∀ (Z : List UInt8) (hZ : Z.length = 32) (r : Bool) (hr : (X == Z) = r) (b : Nat) (w' : World), U4.grownBy w' none → RdB w' (some ⟨b, 0, none⟩) [120] → Calls Tryd.prog 10 #[.agg (Z.map bv).toArray, .int .i64 3, .slice (some ⟨b, 0, none⟩) 1 1, .agg #[.int .i64 3, .slice (some ⟨g1, 0, none⟩) 32 c1, .slice (some ⟨g2, 0, none⟩) 32 c2, .slice (some ⟨g3, 0, none⟩) 4 c3]] w' fun e w'' => e = .returned (.bool r) ∧ w'.grownBy w'' none := fun Z hZ r hr b w' hg hb => by
    have h := Verify_in Z hZ 2 (by omega) (some ⟨b, 0, none⟩) [120] 1 g1 c1 g2 c2 _ _ (openF_len (seedR seed7 3) [120]) (shutF_len (seedR seed7 3) [120]) g3 0 4 c3 (pathR seed7 2) (pathR_len seed7 2 (by omega)) a5 (fun _ => rfl) w' (hk.kept hg) hb (by simp) (r14.kept hg) (r24.kept hg) (r34.kept hg)
    have e : verR Z [120] (openF (seedR seed7 3) [120]) (shutF (seedR seed7 3) [120]) 2 (pathR seed7 2) 4 = r := by
      rw [verR, hu.out, hr]; rfl
    rw [e] at h
    exact h
  have hv1 := hver X hXl.out true (by rw [beq_self_eq_true])
  have hv3 := hver Y hYl.out false (beq_eq_false_iff_ne.2 hne.out)
  have hv2 : ∀ (b : Nat) (w' : World), U4.grownBy w' none → RdB w' (some ⟨b, 0, none⟩) [120] → Calls Tryd.prog 10 #[.agg (X.map bv).toArray, .int .i64 4, .slice (some ⟨b, 0, none⟩) 1 1, .agg #[.int .i64 3, .slice (some ⟨g1, 0, none⟩) 32 c1, .slice (some ⟨g2, 0, none⟩) 32 c2, .slice (some ⟨g3, 0, none⟩) 4 c3]] w' fun e w'' => e = .returned (.bool false) ∧ w'.grownBy w'' none := fun b w' _ _ => Verify_no X 4 3 (by omega) (some ⟨b, 0, none⟩) 1 1 _ _ _ w'
  clear HU4 hA2 hB2 hS3 r13 r23 r33 r1 r2 r3 hsg hid7 hver hcv nf hgU2 hgU3 hgU4 hg6 hg8
  refine wp_region_gc (al := xaAl) 29 (N := 41) (S := xaS) (die := xaDie) (own := xaOwn) (F := xaF X Y g1 c1 g2 c2 g3 c3) (by kernel_rfl) (Nat.le_of_ble_eq_true (by kernel_rfl)) (fun h => absurd (show 29 < 29 from h) (Nat.lt_irrefl _)) (fun h => absurd (show 29 < 29 from h) (Nat.lt_irrefl _)) (by kernel_rfl) (by kernel_rfl) (Nat.le_of_ble_eq_true (by kernel_rfl)) (xaF_lasts X Y g1 c1 g2 c2 g3 c3) ?_ ?_
  · intro i o L' a w K hi ho hg hLi hout hpre houter hitem hap' h1 h2 h3 h4
    have hcases : i = 0 ∨ i = 1 ∨ i = 2 ∨ i = 3 ∨ i = 4 ∨ i = 5 ∨ i = 6 ∨ i = 7 ∨ i = 8 ∨ i = 9 ∨ i = 10 ∨ i = 11 ∨ i = 12 ∨ i = 13 ∨ i = 14 ∨ i = 15 ∨ i = 16 ∨ i = 17 ∨ i = 18 ∨ i = 19 ∨ i = 20 ∨ i = 21 ∨ i = 22 ∨ i = 23 ∨ i = 24 ∨ i = 25 ∨ i = 26 ∨ i = 27 ∨ i = 28 := by omega
    rcases hcases with rfl | rfl | rfl | rfl | rfl | rfl | rfl | rfl | rfl | rfl | rfl | rfl | rfl | rfl | rfl | rfl | rfl | rfl | rfl | rfl | rfl | rfl | rfl | rfl | rfl | rfl | rfl | rfl | rfl
    · cases (show some _ = some o from ho)
      refine .inl ?_
      exact ⟨rfl, wp_load_row 23 _ rfl _ (houter _ rfl) _ (X.map bv).toArray (0, 0) _ (keep_of hX4 hg) Tryd.underlying23 rfl (hashV_size _ (hXl.out)) (h1 ⟨_, rfl⟩ _ _ (grown_refl _ none) rfl (nobl (blocks_bytes _)) (FreshB.none (blocks_bytes _)))⟩
    · cases (show some _ = some o from ho)
      refine .inl ?_
      exact ⟨rfl, wp_lit1 rfl rfl (lit_b1 120 _) (h1 ⟨_, rfl⟩ _ _ (grown_alloc (grown_refl _ _) _) ⟨_, rfl, heap_alloc_new _ _⟩ (new_lt _ _) (FreshB.new (new_ge _)))⟩
    · cases (show some _ = some o from ho)
      refine .inl ?_
      obtain ⟨b, e1, hb⟩ := hitem 1 (by decide) ⟨hpre 1 rfl, hLi⟩
      obtain ⟨w', hrun, hgr, hb'⟩ := run_conv w b _ 1 1 hb
      exact ⟨rfl, wp_conv rfl e1 hrun (h2 ⟨_, rfl⟩ 1 _ _ (some b) (by decide) ⟨hpre 1 rfl, hLi⟩ rfl rfl hgr (fun g e => by cases e; rw [show valB _ a 1 = _ from e1]; exact List.mem_singleton.2 rfl) ⟨b, rfl, rd_row hb'⟩ (fun g e => by have e' : g ∈ [b] := e; rw [List.mem_singleton] at e'; subst e'; exact lt_of_heap hb') (fun g e => .inr (.inl (by rw [show valB _ a 1 = _ from e1]; exact e))))⟩
    · cases (show some _ = some o from ho)
      refine .inl ?_
      exact ⟨rfl, wp_load_row 28 _ rfl _ (houter _ rfl) _ #[.int .i64 3, .slice (some ⟨g1, 0, none⟩) 32 c1, .slice (some ⟨g2, 0, none⟩) 32 c2, .slice (some ⟨g3, 0, none⟩) 4 c3] (0, 0) _ (keep_of hS4 hg) Tryd.underlying28 rfl (size_sig) (h1 ⟨_, rfl⟩ _ _ (grown_refl _ none) rfl (nobl rfl) (FreshB.none rfl))⟩
    · cases (show some _ = some o from ho)
      refine .inl ?_
      have x13 : a.eval (.tmp 13) = (.agg (X.map bv).toArray) := hitem 0 (by decide) ⟨hpre 0 rfl, hout _ (by decide)⟩
      have x16 : a.eval (.tmp 16) = (.agg #[.int .i64 3, .slice (some ⟨g1, 0, none⟩) 32 c1, .slice (some ⟨g2, 0, none⟩) 32 c2, .slice (some ⟨g3, 0, none⟩) 4 c3]) := hitem 3 (by decide) ⟨hpre 3 rfl, hout _ (by decide)⟩
      obtain ⟨b, x15, hb⟩ := hitem 2 (by decide) ⟨hpre 2 rfl, hout _ (by decide)⟩
      replace x15 : a.eval (.tmp 15) = _ := x15
      refine ⟨rfl, wp_call rfl Tryd.func10 (by kernel_rfl) (by kernel_rfl) (args := #[.agg (X.map bv).toArray, .int .i64 3, .slice (some ⟨b, 0, none⟩) 1 1, .agg #[.int .i64 3, .slice (some ⟨g1, 0, none⟩) 32 c1, .slice (some ⟨g2, 0, none⟩) 32 c2, .slice (some ⟨g3, 0, none⟩) 4 c3]]) (by simp [eval_const, x13, x15, x16]) ((hv1 _ w hg hb).mono ?_)⟩
      rintro e w' ⟨rfl, hg'⟩
      exact ⟨_, rfl, h1 ⟨_, rfl⟩ _ _ hg' rfl (nobl rfl) (FreshB.none rfl)⟩
    · cases (show some _ = some o from ho)
      refine .inl ?_
      have hx := hitem 4 (by decide) ⟨hpre 4 rfl, hout _ (by decide)⟩
      exact ⟨rfl, wp_move rfl (h1 ⟨_, rfl⟩ _ _ (grown_refl _ none) hx (by rw [show a.eval (.tmp 17) = .bool true from hx]; exact nobl rfl) (by rw [show a.eval (.tmp 17) = .bool true from hx]; exact FreshB.none rfl))⟩
    · cases (show some _ = some o from ho)
      refine .inl ?_
      exact ⟨wanted_of (j := 5) rfl rfl (hitem 5 (by decide) ⟨hpre 5 rfl, hout _ (by decide)⟩), wp_load_row 23 _ rfl _ (houter _ rfl) _ (X.map bv).toArray (0, 0) _ (keep_of hX4 hg) Tryd.underlying23 rfl (hashV_size _ (hXl.out)) (h1 ⟨_, rfl⟩ _ _ (grown_refl _ none) rfl (nobl (blocks_bytes _)) (FreshB.none (blocks_bytes _)))⟩
    · cases (show some _ = some o from ho)
      refine .inl ?_
      exact ⟨wanted_of (j := 5) rfl rfl (hitem 5 (by decide) ⟨hpre 5 rfl, hout _ (by decide)⟩), wp_lit1 rfl rfl (lit_b1 120 _) (h1 ⟨_, rfl⟩ _ _ (grown_alloc (grown_refl _ _) _) ⟨_, rfl, heap_alloc_new _ _⟩ (new_lt _ _) (FreshB.new (new_ge _)))⟩
    · cases (show some _ = some o from ho)
      refine .inl ?_
      obtain ⟨b, e1, hb⟩ := hitem 7 (by decide) ⟨hpre 7 rfl, hLi⟩
      obtain ⟨w', hrun, hgr, hb'⟩ := run_conv w b _ 1 1 hb
      exact ⟨wanted_of (j := 5) rfl rfl (hitem 5 (by decide) ⟨hpre 5 rfl, hout _ (by decide)⟩), wp_conv rfl e1 hrun (h2 ⟨_, rfl⟩ 7 _ _ (some b) (by decide) ⟨hpre 7 rfl, hLi⟩ rfl rfl hgr (fun g e => by cases e; rw [show valB _ a 7 = _ from e1]; exact List.mem_singleton.2 rfl) ⟨b, rfl, rd_row hb'⟩ (fun g e => by have e' : g ∈ [b] := e; rw [List.mem_singleton] at e'; subst e'; exact lt_of_heap hb') (fun g e => .inr (.inl (by rw [show valB _ a 7 = _ from e1]; exact e))))⟩
    · cases (show some _ = some o from ho)
      refine .inl ?_
      exact ⟨wanted_of (j := 5) rfl rfl (hitem 5 (by decide) ⟨hpre 5 rfl, hout _ (by decide)⟩), wp_load_row 28 _ rfl _ (houter _ rfl) _ #[.int .i64 3, .slice (some ⟨g1, 0, none⟩) 32 c1, .slice (some ⟨g2, 0, none⟩) 32 c2, .slice (some ⟨g3, 0, none⟩) 4 c3] (0, 0) _ (keep_of hS4 hg) Tryd.underlying28 rfl (size_sig) (h1 ⟨_, rfl⟩ _ _ (grown_refl _ none) rfl (nobl rfl) (FreshB.none rfl))⟩
    · cases (show some _ = some o from ho)
      refine .inl ?_
      have x19 : a.eval (.tmp 19) = (.agg (X.map bv).toArray) := hitem 6 (by decide) ⟨hpre 6 rfl, hout _ (by decide)⟩
      have x22 : a.eval (.tmp 22) = (.agg #[.int .i64 3, .slice (some ⟨g1, 0, none⟩) 32 c1, .slice (some ⟨g2, 0, none⟩) 32 c2, .slice (some ⟨g3, 0, none⟩) 4 c3]) := hitem 9 (by decide) ⟨hpre 9 rfl, hout _ (by decide)⟩
      obtain ⟨b, x21, hb⟩ := hitem 8 (by decide) ⟨hpre 8 rfl, hout _ (by decide)⟩
      replace x21 : a.eval (.tmp 21) = _ := x21
      refine ⟨wanted_of (j := 5) rfl rfl (hitem 5 (by decide) ⟨hpre 5 rfl, hout _ (by decide)⟩), wp_call rfl Tryd.func10 (by kernel_rfl) (by kernel_rfl) (args := #[.agg (X.map bv).toArray, .int .i64 4, .slice (some ⟨b, 0, none⟩) 1 1, .agg #[.int .i64 3, .slice (some ⟨g1, 0, none⟩) 32 c1, .slice (some ⟨g2, 0, none⟩) 32 c2, .slice (some ⟨g3, 0, none⟩) 4 c3]]) (by simp [eval_const, x19, x21, x22]) ((hv2 _ w hg hb).mono ?_)⟩
      rintro e w' ⟨rfl, hg'⟩
      exact ⟨_, rfl, h1 ⟨_, rfl⟩ _ _ hg' rfl (nobl rfl) (FreshB.none rfl)⟩
    · cases (show some _ = some o from ho)
      refine .inl ?_
      exact ⟨wanted_of (j := 5) rfl rfl (hitem 5 (by decide) ⟨hpre 5 rfl, hout _ (by decide)⟩), wp_not rfl (hitem 10 (by decide) ⟨hpre 10 rfl, hout _ (by decide)⟩) (h1 ⟨_, rfl⟩ _ _ (grown_refl _ none) rfl (nobl rfl) (FreshB.none rfl))⟩
    · cases (show some _ = some o from ho)
      refine .inl ?_
      have hc := hitem 5 (by decide) ⟨hpre 5 rfl, hout _ (by decide)⟩
      have hx := hitem 11 (by decide) ⟨hpre 11 rfl, hout _ (by decide)⟩
      exact ⟨rfl, wp_pick rfl hc (h1 ⟨_, rfl⟩ _ _ (grown_refl _ none) hx (by rw [show a.eval (.tmp 24) = .bool true from hx]; exact nobl rfl) (by rw [show a.eval (.tmp 24) = .bool true from hx]; exact FreshB.none rfl))⟩
    · cases (show some _ = some o from ho)
      refine .inl ?_
      have hx := hitem 12 (by decide) ⟨hpre 12 rfl, hout _ (by decide)⟩
      exact ⟨rfl, wp_move rfl (h1 ⟨_, rfl⟩ _ _ (grown_refl _ none) hx (by rw [show a.eval (.tmp 25) = .bool true from hx]; exact nobl rfl) (by rw [show a.eval (.tmp 25) = .bool true from hx]; exact FreshB.none rfl))⟩
    · cases (show some _ = some o from ho)
      refine .inl ?_
      exact ⟨wanted_of (j := 13) rfl rfl (hitem 13 (by decide) ⟨hpre 13 rfl, hout _ (by decide)⟩), wp_load_row 23 _ rfl _ (houter _ rfl) _ (seed8.map bv).toArray (0, 0) _ (keep_of hB4 hg) Tryd.underlying23 rfl (hashV_size _ (rfl)) (h1 ⟨_, rfl⟩ _ _ (grown_refl _ none) rfl (nobl (blocks_bytes _)) (FreshB.none (blocks_bytes _)))⟩
    · cases (show some _ = some o from ho)
      refine .inl ?_
      have x27 : a.eval (.tmp 27) = (.agg (seed8.map bv).toArray) := hitem 14 (by decide) ⟨hpre 14 rfl, hout _ (by decide)⟩
      refine ⟨wanted_of (j := 13) rfl rfl (hitem 13 (by decide) ⟨hpre 13 rfl, hout _ (by decide)⟩), wp_call rfl Tryd.func9 (by kernel_rfl) (by kernel_rfl) (args := #[.agg (seed8.map bv).toArray]) (by simp [x27]) ((hid8 w (hk.kept hg)).mono ?_)⟩
      rintro e w' ⟨rfl, hg'⟩
      exact ⟨_, rfl, h1 ⟨_, rfl⟩ _ _ hg' rfl (nobl (blocks_bytes _)) (FreshB.none (blocks_bytes _))⟩
    · cases (show some _ = some o from ho)
      refine .inl ?_
      exact ⟨wanted_of (j := 13) rfl rfl (hitem 13 (by decide) ⟨hpre 13 rfl, hout _ (by decide)⟩), wp_lit1 rfl rfl (lit_b1 120 _) (h1 ⟨_, rfl⟩ _ _ (grown_alloc (grown_refl _ _) _) ⟨_, rfl, heap_alloc_new _ _⟩ (new_lt _ _) (FreshB.new (new_ge _)))⟩
    · cases (show some _ = some o from ho)
      refine .inl ?_
      obtain ⟨b, e1, hb⟩ := hitem 16 (by decide) ⟨hpre 16 rfl, hLi⟩
      obtain ⟨w', hrun, hgr, hb'⟩ := run_conv w b _ 1 1 hb
      exact ⟨wanted_of (j := 13) rfl rfl (hitem 13 (by decide) ⟨hpre 13 rfl, hout _ (by decide)⟩), wp_conv rfl e1 hrun (h2 ⟨_, rfl⟩ 16 _ _ (some b) (by decide) ⟨hpre 16 rfl, hLi⟩ rfl rfl hgr (fun g e => by cases e; rw [show valB _ a 16 = _ from e1]; exact List.mem_singleton.2 rfl) ⟨b, rfl, rd_row hb'⟩ (fun g e => by have e' : g ∈ [b] := e; rw [List.mem_singleton] at e'; subst e'; exact lt_of_heap hb') (fun g e => .inr (.inl (by rw [show valB _ a 16 = _ from e1]; exact e))))⟩
    · cases (show some _ = some o from ho)
      refine .inl ?_
      exact ⟨wanted_of (j := 13) rfl rfl (hitem 13 (by decide) ⟨hpre 13 rfl, hout _ (by decide)⟩), wp_load_row 28 _ rfl _ (houter _ rfl) _ #[.int .i64 3, .slice (some ⟨g1, 0, none⟩) 32 c1, .slice (some ⟨g2, 0, none⟩) 32 c2, .slice (some ⟨g3, 0, none⟩) 4 c3] (0, 0) _ (keep_of hS4 hg) Tryd.underlying28 rfl (size_sig) (h1 ⟨_, rfl⟩ _ _ (grown_refl _ none) rfl (nobl rfl) (FreshB.none rfl))⟩
    · cases (show some _ = some o from ho)
      refine .inl ?_
      have x28 : a.eval (.tmp 28) = (.agg (Y.map bv).toArray) := hitem 15 (by decide) ⟨hpre 15 rfl, hout _ (by decide)⟩
      have x31 : a.eval (.tmp 31) = (.agg #[.int .i64 3, .slice (some ⟨g1, 0, none⟩) 32 c1, .slice (some ⟨g2, 0, none⟩) 32 c2, .slice (some ⟨g3, 0, none⟩) 4 c3]) := hitem 18 (by decide) ⟨hpre 18 rfl, hout _ (by decide)⟩
      obtain ⟨b, x30, hb⟩ := hitem 17 (by decide) ⟨hpre 17 rfl, hout _ (by decide)⟩
      replace x30 : a.eval (.tmp 30) = _ := x30
      refine ⟨wanted_of (j := 13) rfl rfl (hitem 13 (by decide) ⟨hpre 13 rfl, hout _ (by decide)⟩), wp_call rfl Tryd.func10 (by kernel_rfl) (by kernel_rfl) (args := #[.agg (Y.map bv).toArray, .int .i64 3, .slice (some ⟨b, 0, none⟩) 1 1, .agg #[.int .i64 3, .slice (some ⟨g1, 0, none⟩) 32 c1, .slice (some ⟨g2, 0, none⟩) 32 c2, .slice (some ⟨g3, 0, none⟩) 4 c3]]) (by simp [eval_const, x28, x30, x31]) ((hv3 _ w hg hb).mono ?_)⟩
      rintro e w' ⟨rfl, hg'⟩
      exact ⟨_, rfl, h1 ⟨_, rfl⟩ _ _ hg' rfl (nobl rfl) (FreshB.none rfl)⟩
    · cases (show some _ = some o from ho)
      refine .inl ?_
      exact ⟨wanted_of (j := 13) rfl rfl (hitem 13 (by decide) ⟨hpre 13 rfl, hout _ (by decide)⟩), wp_not rfl (hitem 19 (by decide) ⟨hpre 19 rfl, hout _ (by decide)⟩) (h1 ⟨_, rfl⟩ _ _ (grown_refl _ none) rfl (nobl rfl) (FreshB.none rfl))⟩
    · cases (show some _ = some o from ho)
      refine .inl ?_
      have hc := hitem 13 (by decide) ⟨hpre 13 rfl, hout _ (by decide)⟩
      have hx := hitem 20 (by decide) ⟨hpre 20 rfl, hout _ (by decide)⟩
      exact ⟨rfl, wp_pick rfl hc (h1 ⟨_, rfl⟩ _ _ (grown_refl _ none) hx (by rw [show a.eval (.tmp 33) = .bool true from hx]; exact nobl rfl) (by rw [show a.eval (.tmp 33) = .bool true from hx]; exact FreshB.none rfl))⟩
    · cases (show some _ = some o from ho)
      refine .inl ?_
      have hx := hitem 21 (by decide) ⟨hpre 21 rfl, hout _ (by decide)⟩
      exact ⟨rfl, wp_move rfl (h1 ⟨_, rfl⟩ _ _ (grown_refl _ none) hx (by rw [show a.eval (.tmp 34) = .bool true from hx]; exact nobl rfl) (by rw [show a.eval (.tmp 34) = .bool true from hx]; exact FreshB.none rfl))⟩
    · cases (show some _ = some o from ho)
      refine .inl ?_
      exact ⟨wanted_of (j := 22) rfl rfl (hitem 22 (by decide) ⟨hpre 22 rfl, hout _ (by decide)⟩), wp_load_row 23 _ rfl _ (houter _ rfl) _ (seed7.map bv).toArray (0, 0) _ (keep_of hA4 hg) Tryd.underlying23 rfl (hashV_size _ (rfl)) (h1 ⟨_, rfl⟩ _ _ (grown_refl _ none) rfl (nobl (blocks_bytes _)) (FreshB.none (blocks_bytes _)))⟩
    · cases (show some _ = some o from ho)
      refine .inl ?_
      have x36 : a.eval (.tmp 36) = (.agg (seed7.map bv).toArray) := hitem 23 (by decide) ⟨hpre 23 rfl, hout _ (by decide)⟩
      refine ⟨wanted_of (j := 22) rfl rfl (hitem 22 (by decide) ⟨hpre 22 rfl, hout _ (by decide)⟩), wp_call rfl Tryd.func8 (by kernel_rfl) (by kernel_rfl) (args := #[.agg (seed7.map bv).toArray, .int .i64 0, .slice none 0 0]) (by simp [eval_const, x36]) ((hs0 w).mono ?_)⟩
      rintro e w' ⟨rfl, hg'⟩
      exact ⟨_, rfl, h1 ⟨_, rfl⟩ _ _ hg' rfl (nobl rfl) (FreshB.none rfl)⟩
    · cases (show some _ = some o from ho)
      refine .inl ?_
      exact ⟨wanted_of (j := 22) rfl rfl (hitem 22 (by decide) ⟨hpre 22 rfl, hout _ (by decide)⟩), wp_fieldV rfl (hitem 24 (by decide) ⟨hpre 24 rfl, hout _ (by decide)⟩) (field_S0 _ _ _ _) (h1 ⟨_, rfl⟩ _ _ (grown_refl _ none) rfl (nobl rfl) (FreshB.none rfl))⟩
    · cases (show some _ = some o from ho)
      refine .inl ?_
      exact ⟨wanted_of (j := 22) rfl rfl (hitem 22 (by decide) ⟨hpre 22 rfl, hout _ (by decide)⟩), wp_bin rfl (hitem 25 (by decide) ⟨hpre 25 rfl, hout _ (by decide)⟩) (rfl) (guard_int _ _ _ _ _) (eql_i64 _ _ _ (rfl)) (h1 ⟨_, rfl⟩ _ _ (grown_refl _ none) rfl (nobl rfl) (FreshB.none rfl))⟩
    · cases (show some _ = some o from ho)
      refine .inl ?_
      have hc := hitem 22 (by decide) ⟨hpre 22 rfl, hout _ (by decide)⟩
      have hx := hitem 26 (by decide) ⟨hpre 26 rfl, hout _ (by decide)⟩
      exact ⟨rfl, wp_pick rfl hc (h1 ⟨_, rfl⟩ _ _ (grown_refl _ none) hx (by rw [show a.eval (.tmp 39) = .bool true from hx]; exact nobl rfl) (by rw [show a.eval (.tmp 39) = .bool true from hx]; exact FreshB.none rfl))⟩
    · cases (show some _ = some o from ho)
      refine .inl ?_
      have hx := hitem 27 (by decide) ⟨hpre 27 rfl, hout _ (by decide)⟩
      exact ⟨rfl, wp_assign rfl (h1 ⟨_, rfl⟩ _ _ (grown_refl _ none) hx (by rw [show a.eval (.tmp 40) = .bool true from hx]; exact nobl rfl) (by rw [show a.eval (.tmp 40) = .bool true from hx]; exact FreshB.none rfl))⟩
  · intro a wT hgT hend hap ha
    obtain ⟨f, hf⟩ : ∃ f : Nat → Value, f = fun t => a.tmps.getD t undef := ⟨_, rfl⟩
    have s0 : f 0 = .bool true := by rw [hf]; exact (hend 28 (by decide) (by decide)).1
    rw [← hf] at ha
    clear hend hap
    clear hf
    subst ha
    simp only [Act.put, fill, xaS, Nat.reduceAdd, Nat.reduceBEq, Bool.or_false, Bool.or_true, cond_true, cond_false, List.drop_succ_cons, List.drop_zero, s0]
    clear s0
    go_wp2_with fail
    go_ret
    exact ⟨rfl, grown_same hgW hgT⟩

end Go.Proofs.YtohdifimfhdhoaaDoor
