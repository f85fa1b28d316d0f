/- Chapter 3's runs. -/
import Derived.Test.YtmfnncfiaaeknaaDoorLamX
namespace Go.Proofs.YtmfnncfiaaeknaaDoor
open Go.RowKit

/-- A constant text as bytes: the block is marked, nothing else. -/
theorem run_conv (w : World) (g : Nat) (C : Array Value) (n c : Nat) (h : w.heap[g]? = some (.cells C 5 (0, 0))) :
    ∃ w', (convert 24 24 (.slice (some ⟨g, 0, none⟩) n c)).run Tryd.prog w = .ok (.slice (some ⟨g, 0, none⟩) n c) w' ∧ w.grownBy w' (some g) ∧ w'.heap[g]? = some (.cells C 5 (C.size, C.size + 1)) := by
  have hsh : w.shape? g = some (5, C.size) := by unfold World.shape?; rw [h]
  have hl : g < w.heap.size := (Array.getElem?_eq_some_iff.1 h).1
  refine ⟨w.freeze ⟨g, C.size, none⟩ 1, ?_, ?_, ?_⟩
  · simp [convert, run_underlying Tryd.underlying24, run_underlying Tryd.underlying5, markStringish, hsh]
  · unfold World.freeze
    rw [if_neg (by decide)]
    exact ⟨rfl, rfl, rfl, by simp, fun k hk hne => by
      show (w.heap.modify g _)[k]? = _
      have : g ≠ k := fun e => hne (by rw [e])
      rw [Array.getElem?_modify, if_neg this]⟩
  · unfold World.freeze
    rw [if_neg (by decide)]
    show (w.heap.modify g _)[g]? = _
    rw [Array.getElem?_modify, if_pos rfl, h]
    rfl
theorem wp_conv {P : Program} {o : Oper} {a : Act} {w w' : World} {K : Act → World → Prop} {Q : Exit → Act → World → Prop} {t u : TypeId} {x : Operand} {xv v : Value} (ho : o.op = .convert t u x) (hx : a.eval x = xv) (hrun : (convert t u xv).run P w = .ok v w') (h : K (a.put o.dst v) w') : Oper.wp P o a w K Q := by
  unfold Oper.wp execOp
  simp only [ho, hx, Sem.run_bind, hrun, Result.andThen_ok, Sem.run_pure]
  exact h
/-- A block of bytes of the call's own. -/
def LitB (l : List UInt8) (n : Nat) (v : Value) (w : World) : Prop := ∃ b, v = .slice (some ⟨b, 0, none⟩) n n ∧ w.heap[b]? = some (.cells (l.map bv).toArray 5 (0, 0))
def ConB (l : List UInt8) (n : Nat) (v : Value) (w : World) : Prop := ∃ b, v = .slice (some ⟨b, 0, none⟩) n n ∧ RdB w (some ⟨b, 0, none⟩) l
theorem LastsB.litB {al : Nat → Bool} {k : Nat} (ha : al k = false) (l : List UInt8) (n : Nat) : LastsB al k (LitB l n) := by
  rintro v w w' row ⟨b, rfl, h⟩ hg hne
  exact ⟨b, rfl, other_block h hg (hne b (by simp [bl, ha, blocksOf]))⟩
theorem LastsB.conB {al : Nat → Bool} {k : Nat} (ha : al k = false) (l : List UInt8) (n : Nat) : LastsB al k (ConB l n) := by
  rintro v w w' row ⟨b, rfl, h⟩ hg hne
  exact ⟨b, rfl, h.keep hg (fun ad e => by cases e; exact hne b (by simp [bl, ha, blocksOf]))⟩

def yaS (t : Nat) : Bool := t == 2 || t == 3 || t == 5 || t == 6 || t == 7 || t == 8 || t == 9 || t == 10
def yaDie (k : Nat) : Nat := if k = 3 then 4 else if k = 6 then 8 else 99
def yaOwn (k : Nat) : Bool := k == 3 || k == 4 || k == 6 || k == 7 || k == 8
def yaAl (k : Nat) : Bool := k == 6 || k == 7 || k == 8
def yaF (X : List UInt8) : Nat → Value → World → Prop
  | 0 => fun v _ => v = (.agg (seed5.map bv).toArray)
  | 1 => fun v _ => v = (.agg (X.map bv).toArray)
  | 2 => fun v _ => v = (.agg (seed5.map bv).toArray)
  | 3 => LitB [97] 1
  | 4 => ConB [97] 1
  | 5 => SigAt (openF seed5 [97]) (shutF seed5 [97])
  | 6 => Made (rowH []) 23
  | 7 => Made #[.slice none 0 0, .slice none 0 0] 28
  | 8 => Stored 23
  | _ => fun _ _ => True
theorem yaF_lasts (X : List UInt8) : ∀ kq, LastsB yaAl kq (yaF X kq)
  | 0 => LastsB.val _
  | 1 => LastsB.val _
  | 2 => LastsB.val _
  | 3 => LastsB.litB rfl _ _
  | 4 => LastsB.conB rfl _ _
  | 5 => LastsB.sig rfl _ _
  | 6 => LastsB.made rfl _ _
  | 7 => LastsB.made rfl _ _
  | 8 => LastsB.stored rfl _
  | _ + 9 => fun _ _ _ _ _ _ _ => trivial

set_option maxRecDepth 100000 in
set_option maxHeartbeats 1000000 in
theorem LamRuns_any (W0 : World) (hk : Laid2 W0) :
    Calls Tryd.prog 15 #[] W0 fun e w' => e = .returned (.bool true) ∧ W0.grownBy w' none := by
  have hkey := fun w' (h : Laid2 w') => Key_any seed5 rfl w' h
  obtain ⟨X, hX⟩ : ∃ X, X = keyL seed5 := ⟨_, rfl⟩
  rw [← hX] at hkey
  have hXl : Hid (X.length = 32) := by rw [hX]; exact tagL_len _ _
  have hv1 : Hid ((whoF [97] (openF seed5 [97]) (shutF seed5 [97]) == X) = true) := by show _ = _; rw [whoF_sign, hX, beq_self_eq_true]
  have hv2 : Hid ((whoF [98] (openF seed5 [97]) (shutF seed5 [97]) == X) = false) := by
    show _ = _
    rw [hX]
    exact beq_eq_false_iff_ne.2 other5F
  clear hX
  go_enter Tryd.func15, Tryd.ntmps15
  go_wp2_with (refine wpList_store_row rfl 23 _ _ rfl (W0.heap.size) (seed5.map bv).toArray rfl rfl 23 _ (alloc_at rfl) (hashV_size _ rfl) rfl (bv_all' _) ?_; generalize hw3 : World.setRow _ _ _ = W; have HW3 := new_hash hw3; clear hw3)
  have hgW := HW3.2
  have hS := HW3.1
  have hlt1 := lt_of_heap hS
  replace hk := hk.kept hgW
  clear HW3
  refine wp_region_gb (al := yaAl) 9 (N := 38) (S := yaS) (die := yaDie) (own := yaOwn) (F := yaF X) (by kernel_rfl) (Nat.le_of_ble_eq_true (by kernel_rfl)) (fun _ => by kernel_rfl) (fun _ => by kernel_rfl) (by kernel_rfl) (by kernel_rfl) (Nat.le_of_ble_eq_true (by kernel_rfl)) (yaF_lasts X) ?_ ?_
  · intro i o L' a w K hi ho hg hLi hout hpre houter hitem h1 h2 h3
    have hcases : i = 0 ∨ i = 1 ∨ i = 2 ∨ i = 3 ∨ i = 4 ∨ i = 5 ∨ i = 6 ∨ i = 7 ∨ i = 8 := by omega
    rcases hcases with rfl | rfl | rfl | rfl | rfl | rfl | rfl | rfl | rfl
    · cases (show some _ = some o from ho)
      exact ⟨rfl, wp_load_row 23 _ rfl _ (houter _ rfl) _ (seed5.map bv).toArray (0, 0) _ (keep_of hS hg) Tryd.underlying23 rfl (hashV_size _ (rfl)) (h1 ⟨_, rfl⟩ _ _ (grown_refl _ none) rfl (nobl (blocks_bytes _)) (FreshB.none (blocks_bytes _)))⟩
    · cases (show some _ = some o from ho)
      have x5 : a.eval (.tmp 5) = (.agg (seed5.map bv).toArray) := hitem 0 (by decide) ⟨hpre 0 rfl, hout _ (by decide)⟩
      refine ⟨rfl, wp_call rfl Tryd.func9 (by kernel_rfl) (by kernel_rfl) (args := #[(.agg (seed5.map bv).toArray)]) (by simp [x5]) ((hkey w (hk.kept hg)).mono ?_)⟩
      rintro e w' ⟨rfl, hg'⟩
      exact ⟨_, rfl, h1 ⟨_, rfl⟩ _ _ hg' rfl (nobl (blocks_bytes _)) (FreshB.none (blocks_bytes _))⟩
    · cases (show some _ = some o from ho)
      exact ⟨rfl, wp_load_row 23 _ rfl _ (houter _ rfl) _ (seed5.map bv).toArray (0, 0) _ (keep_of hS hg) Tryd.underlying23 rfl (hashV_size _ (rfl)) (h1 ⟨_, rfl⟩ _ _ (grown_refl _ none) rfl (nobl (blocks_bytes _)) (FreshB.none (blocks_bytes _)))⟩
    · cases (show some _ = some o from ho)
      exact ⟨rfl, wp_lit1 rfl rfl (lit_b1 97 _) (h1 ⟨_, rfl⟩ _ _ (grown_alloc (grown_refl _ _) _) ⟨_, rfl, heap_alloc_new _ _⟩ (new_lt _ _) (FreshB.new (new_ge _)))⟩
    · cases (show some _ = some o from ho)
      obtain ⟨b, e1, hb⟩ := hitem 3 (by decide) ⟨hpre 3 rfl, hLi⟩
      obtain ⟨w', hrun, hgr, hb'⟩ := run_conv w b _ 1 1 hb
      exact ⟨rfl, wp_conv rfl e1 hrun (h2 ⟨_, rfl⟩ 3 _ _ (some b) (by decide) ⟨hpre 3 rfl, hLi⟩ rfl rfl hgr (fun g e => by cases e; rw [show valB _ a 3 = _ from e1]; exact List.mem_singleton.2 rfl) ⟨b, rfl, rd_row hb'⟩ (fun g e => by have e' : g ∈ [b] := e; rw [List.mem_singleton] at e'; subst e'; exact lt_of_heap hb') (fun g e => .inr (.inl (by rw [show valB _ a 3 = _ from e1]; exact e))))⟩
    · cases (show some _ = some o from ho)
      obtain ⟨b, e1, hb⟩ := hitem 4 (by decide) ⟨hpre 4 rfl, hout _ (by decide)⟩
      have x7 : a.eval (.tmp 7) = (.agg (seed5.map bv).toArray) := hitem 2 (by decide) ⟨hpre 2 rfl, hout _ (by decide)⟩
      refine ⟨rfl, wp_call rfl Tryd.func10 (by kernel_rfl) (by kernel_rfl) (args := #[.agg (seed5.map bv).toArray, .slice (some ⟨b, 0, none⟩) 1 1]) (by simp [x7, show a.eval (.tmp 9) = .slice (some ⟨b, 0, none⟩) 1 1 from e1]) ((Sign_sig seed5 rfl (some ⟨b, 0, none⟩) [97] 1 w (hk.kept hg) hb (by simp)).mono ?_)⟩
      rintro e w' ⟨v, rfl, hf', hg', hn', ht'⟩
      exact ⟨_, rfl, h1 ⟨_, rfl⟩ _ _ hg' hf' ht' (FreshB.new hn')⟩
    · cases (show some _ = some o from ho)
      exact ⟨rfl, wp_alloc rfl (alloc_H _) (h1 ⟨_, rfl⟩ _ _ (grown_alloc (grown_refl _ _) _) ⟨_, rfl, heap_alloc_new _ _⟩ (new_lt _ _) (FreshB.new (new_ge _)))⟩
    · cases (show some _ = some o from ho)
      exact ⟨rfl, wp_alloc rfl (alloc_O _) (h1 ⟨_, rfl⟩ _ _ (grown_alloc (grown_refl _ _) _) ⟨_, rfl, heap_alloc_new _ _⟩ (new_lt _ _) (FreshB.new (new_ge _)))⟩
    · cases (show some _ = some o from ho)
      obtain ⟨b, e1, hb⟩ := hitem 6 (by decide) ⟨hpre 6 rfl, hLi⟩
      have x2 : a.eval (.tmp 6) = .agg (X.map bv).toArray := hitem 1 (by decide) ⟨hpre 1 rfl, hout _ (by decide)⟩
      exact ⟨rfl, wp_store_row 23 _ _ rfl b (X.map bv).toArray e1 x2 23 _ hb (hashV_size _ hXl.out) (by rw [rowH_size _ (by simp), List.size_toArray, List.length_map, hXl.out]) (bv_all' _) (h3 rfl 6 _ _ (some b) (by decide) ⟨hpre 6 rfl, hLi⟩ rfl rfl (grown_setRow (grown_refl _ _) (.inl rfl) _) (fun g e => by cases e; rw [show valB _ a 6 = _ from e1]; exact List.mem_singleton.2 rfl) ⟨b, _, (by rw [show valB _ a 8 = .tuple #[a.eval (.tmp 2), a.eval (.tmp 6)] from rfl, show a.eval (.tmp 2) = _ from e1, x2]), setRow_heap _ _ _ _ _ _ hb⟩ (fun g h => by rw [show valB _ a 8 = .tuple #[a.eval (.tmp 2), a.eval (.tmp 6)] from rfl, show a.eval (.tmp 2) = _ from e1] at h; rw [show valB _ a 6 = _ from e1]; exact h))⟩
  · intro a wT hgT hend hap ha
    obtain ⟨f, hf⟩ : ∃ f : Nat → Value, f = fun t => a.tmps.getD t undef := ⟨_, rfl⟩
    have s6 : f 6 = (.agg (X.map bv).toArray) := by rw [hf]; exact (hend 1 (by decide) (by decide)).1
    obtain ⟨g1, c1, g2, c2, q10, hc1, hc2, hc3, hc4, hr1, hr2⟩ := (hend 5 (by decide) (by decide)).1
    have s10 := (congrFun hf 10).trans q10
    obtain ⟨⟨b2, C2, q2, hh2⟩, fr2⟩ := hend 8 (by decide) (by decide)
    have f2 : W.heap.size ≤ b2 := fr2 rfl b2 (by rw [q2]; exact List.mem_singleton.2 rfl)
    have p2 := tuple_two (show Value.tuple #[_, _] = _ from q2)
    have s2 := (congrFun hf 2).trans p2.1
    have v2 : f 6 = .agg C2 := (congrFun hf 6).trans p2.2
    obtain rfl := Value.agg.inj (v2.symm.trans s6)
    clear v2
    obtain ⟨⟨b3, q3, hh3⟩, fr3⟩ := hend 7 (by decide) (by decide)
    have f3 : W.heap.size ≤ b3 := fr3 rfl b3 (by rw [q3]; exact List.mem_singleton.2 rfl)
    have s3 := (congrFun hf 3).trans q3
    have n2_3 : b2 ≠ b3 := fun e => hap 8 7 (by decide) (by decide) (by decide) (by decide) (by decide) rfl b3 (by rw [q3]; exact List.mem_singleton.2 rfl) (by rw [q2, e]; exact List.mem_singleton.2 rfl)
    rw [← hf] at ha
    clear hend hap
    clear hf
    clear q10 q2 p2 fr2 q3 fr3
    subst ha
    simp only [Act.put, fill, yaS, Nat.reduceAdd, Nat.reduceBEq, Bool.or_false, Bool.or_true, cond_true, cond_false, List.drop_succ_cons, List.drop_zero, s6, s10, s2, s3]
    clear s2 s3 s6 s10
    have m1 := part_ne (openF_len seed5 [97]) hr1 hh3 (by simp)
    have m2 := part_ne (shutF_len seed5 [97]) hr2 hh3 (by simp)
    have hgs : wT.grownBy (wT.setRow b3 #[.slice (some ⟨g1, 0, none⟩) 32 c1, .slice (some ⟨g2, 0, none⟩) 32 c2]) (some b3) := grown_setRow (grown_refl _ _) (.inl rfl) _
    have hO4 : (wT.setRow b3 #[.slice (some ⟨g1, 0, none⟩) 32 c1, .slice (some ⟨g2, 0, none⟩) 32 c2]).heap[b3]? = some (.cells #[.slice (some ⟨g1, 0, none⟩) 32 c1, .slice (some ⟨g2, 0, none⟩) 32 c2] 28 (0, 0)) := setRow_heap _ _ _ _ _ _ hh3
    have hX4 : (wT.setRow b3 #[.slice (some ⟨g1, 0, none⟩) 32 c1, .slice (some ⟨g2, 0, none⟩) 32 c2]).heap[b2]? = _ := (setRow_other _ _ _ _ n2_3).trans hh2
    have hr1' := hr1.keepRow hgs m1
    have hr2' := hr2.keepRow hgs m2
    have hgW4 : W.grownBy (wT.setRow b3 #[.slice (some ⟨g1, 0, none⟩) 32 c1, .slice (some ⟨g2, 0, none⟩) 32 c2]) none := grown_trans hgT hgs (.inr fun g e => by cases e; exact f3)
    have hcv := conv_const
    have hV : ∀ w' A n b, Laid2 w' → RdB w' A n → n.length = 1 → RdB w' (some ⟨g1, 0, none⟩) (partsF (openF seed5 [97]) 32) → RdB w' (some ⟨g2, 0, none⟩) (partsF (shutF seed5 [97]) 32) → (whoF n (openF seed5 [97]) (shutF seed5 [97]) == X) = b →
        Calls Tryd.prog 11 #[.agg (X.map bv).toArray, .slice A 1 1, .agg #[.slice (some ⟨g1, 0, none⟩) 32 c1, .slice (some ⟨g2, 0, none⟩) 32 c2]] w' fun e w'' => e = .returned (.bool b) ∧ w'.grownBy w'' none := fun w' A n b h1 h2 h3 h4 h5 h6 => by
      have := Verify_any X hXl.out A n 1 g1 c1 g2 c2 _ _ (openF_len seed5 [97]) (shutF_len seed5 [97]) w' h1 h2 (by omega) h4 h5
      rw [h3, h6] at this
      exact this
    have hVs := fun w' A => Verify_short X hXl.out A 1 1 none 0 0 none 0 0 w' (.inl (by omega))
    have nf : ∀ (w : World) (C : Array Value) (t : TypeId) (fr : Nat × Nat), (w.alloc (.cells C t fr)).heap[w.heap.size]? = some (.cells C t fr) := fun w C t fr => heap_alloc_new _ _
    go_wp2_with (first
      | (refine wpList_store_row rfl 28 _ _ rfl b3 _ rfl rfl 28 _ hh3 size_one rfl (one_two _ _ _ _ _ _) ?_; generalize wT.setRow b3 _ = w4 at hO4 hX4 hr1' hr2' hgW4 ⊢; clear hgs)
      | (refine wpList_load_row rfl 23 _ rfl b2 rfl _ (X.map bv).toArray (0, 0) _ hX4 Tryd.underlying23 rfl (hashV_size _ hXl.out) ?_)
      | (refine wpList_load_row rfl 28 _ rfl b3 rfl _ #[.slice (some ⟨g1, 0, none⟩) 32 c1, .slice (some ⟨g2, 0, none⟩) 32 c2] (0, 0) _ (alloc_old hO4) Tryd.underlying28 rfl size_one ?_)
      | (go_at_call_of 11 (Value.slice (some ⟨w4.heap.size, 0, none⟩) 1 1); refine (hV _ (some ⟨w4.heap.size, 0, none⟩) [97] true (hk.kept (grown_alloc hgW4 _)) (rd_row (cs := ([97] : List UInt8).map bv) (nf _ _ _ _)) rfl (hr1'.alloc _) (hr2'.alloc _) hv1.out).mono ?_; rintro e w6 ⟨rfl, hg6⟩; have G6 : W.grownBy w6 none := grown_same (grown_alloc hgW4 _) hg6; have hgW6 := G6; have hX6 := keep_of (alloc_old hX4) hg6; have hO6 := keep_of (alloc_old hO4) hg6; have r16 := (hr1'.alloc _).kept hg6; have r26 := (hr2'.alloc _).kept hg6)
      | (refine wpList_load_row_g (by rfl) 23 _ rfl b2 rfl _ (X.map bv).toArray (0, 0) _ hX8 Tryd.underlying23 rfl (hashV_size _ hXl.out) ?_)
      | (refine wpList_load_row_g (by rfl) 23 _ rfl b2 rfl _ (X.map bv).toArray (0, 0) _ hX6 Tryd.underlying23 rfl (hashV_size _ hXl.out) ?_)
      | (refine wpList_load_row_g (by rfl) 28 _ rfl b3 rfl _ #[.slice (some ⟨g1, 0, none⟩) 32 c1, .slice (some ⟨g2, 0, none⟩) 32 c2] (0, 0) _ (alloc_old hO6) Tryd.underlying28 rfl size_one ?_)
      | (go_at_call_of 11 (Value.slice (some ⟨w6.heap.size, 0, none⟩) 1 1); refine (hV _ (some ⟨w6.heap.size, 0, none⟩) [98] false (hk.kept (grown_alloc hgW6 _)) (rd_row (cs := ([98] : List UInt8).map bv) (nf _ _ _ _)) rfl (r16.alloc _) (r26.alloc _) hv2.out).mono ?_; rintro e w8 ⟨rfl, hg8⟩; have G8 : W.grownBy w8 none := grown_same (grown_alloc hgW6 _) hg8; have hgW8 := G8; have hX8 := keep_of (alloc_old hX6) hg8; have hO8 := keep_of (alloc_old hO6) hg8; have r18 := (r16.alloc _).kept hg8; have r28 := (r26.alloc _).kept hg8; have hc8 : w8.cell? ⟨b3, 0, none⟩ = some (.slice (some ⟨g1, 0, none⟩) 32 c1) := cell_of_cells hO8 rfl)
      | (go_at_call_of 11 (Value.slice (some ⟨w8.heap.size, 0, none⟩) 1 1); refine (hVs _ _).mono ?_; rintro e w10 ⟨rfl, hg10⟩))
    go_ret
    exact ⟨rfl, grown_same hgW (grown_same (grown_alloc hgW8 _) hg10)⟩
end Go.Proofs.YtmfnncfiaaeknaaDoor
