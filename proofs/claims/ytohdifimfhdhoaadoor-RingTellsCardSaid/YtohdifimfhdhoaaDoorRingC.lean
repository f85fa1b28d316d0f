/- Rings: the document's own signature and what it says of one. -/
import Derived.Test.YtohdifimfhdhoaaDoorRingB
namespace Go.Proofs.YtohdifimfhdhoaaDoor
open Go.RowKit

def rsS (t : Nat) : Bool := t == 7 || t == 8 || t == 9 || t == 10 || t == 11 || t == 12
def rsDie (_ : Nat) : Nat := 99
def rsOwn (_ : Nat) : Bool := false
def rsAl (k : Nat) : Bool := k == 1 || k == 4
def rsF (s m : List UInt8) (i N cm n0 : Nat) (M : Option Addr) : Nat → Value → World → Prop
  | 0 => fun v _ => v = (.agg (s.map bv).toArray)
  | 1 => fun v w => ∃ (A : Option Addr) (ps : List Part) (c : Nat), v = .slice A 16 c ∧ ps.length = 16 ∧ 16 ≤ c ∧ RdP w A ps ∧ leavesOf ps = keysR s
  | 2 => fun v _ => v = (.agg (s.map bv).toArray)
  | 3 => fun v _ => v = .int .i64 ((i + 1 : Nat) : Int)
  | 4 => fun v _ => v = .slice M N cm
  | 5 => fun v w => SigV w n0 s m i v
  | _ => fun _ _ => True
theorem rsF_lasts (s m : List UInt8) (i N cm n0 : Nat) (M : Option Addr) : ∀ kq, LastsK rsAl true kq (rsF s m i N cm n0 M kq)
  | 0 => LastsK.val _
  | 1 => LastsK.calm fun _ _ _ ⟨A, ps, c, h1, h2, h3, h4, h5⟩ hg => ⟨A, ps, c, h1, h2, h3, h4.kept hg, h5⟩
  | 2 => LastsK.val _
  | 3 => LastsK.val _
  | 4 => LastsK.val _
  | 5 => LastsK.calm fun _ _ _ h hg => h.kept hg
  | _ + 6 => fun _ _ _ _ _ _ _ _ => trivial

set_option maxRecDepth 100000 in
theorem RSealed_any (s : List UInt8) (h32 : s.length = 32) (i : Nat) (hi : i < 16) (M : Option Addr) (m : List UInt8) (cm : Nat) (w : World) (hm : RdB w M m) (hb : m.length ≤ 1000) :
    Calls Tryd.prog 12 #[.agg (s.map bv).toArray, .int .i64 ((i + 1 : Nat) : Int), .slice M m.length cm] w fun e w' => SigR w s m i e w' := by
  have hby := fun A ps c w' hn hc hl hr (hg : w.grownBy w' none) => RBy_any A ps c s h32 i hi M m cm w' hn hc hl hr (hm.kept hg) hb
  have hS : Hid (s.length = 32) := h32
  clear h32 hm hb
  generalize hmn : m.length = N at hby ⊢
  replace hmn := Lib.hid hmn
  go_enter Tryd.func12, Tryd.ntmps12
  go_upto_region 1 with (fail)
  generalize hW : World.alloc (World.alloc w _) _ = W
  have hb : W.heap[w.heap.size]? = some (.cells (s.map bv).toArray 23 (0, 0)) := by rw [← hW]; exact alloc_old (alloc_at rfl)
  have hb6 : W.heap[w.heap.size + 1]? = some (.cells #[.int .i64 0, .slice none 0 0, .slice none 0 0, .slice none 0 0] 28 (0, 0)) := by rw [← hW]; exact alloc_at (by simp)
  have hgW : w.grownBy W none := by rw [← hW]; exact grown_alloc (grown_alloc (grown_refl _ _) _) _
  have hWs : w.heap.size + 2 ≤ W.heap.size := by rw [← hW]; simp
  replace hby := fun A ps c w' hn hc hl hr (h : W.grownBy w' none) => hby A ps c w' hn hc hl hr (grown_same hgW h)
  clear hW
  refine wp_region_gt (R := none) (i1 := 999) (q := true) (al := rsAl) 6 (N := 13) (S := rsS) (die := rsDie) (own := rsOwn) (F := rsF s m i N cm W.heap.size M) (by kernel_rfl) (Nat.le_of_ble_eq_true (by kernel_rfl)) (by kernel_rfl) (by kernel_rfl) (by kernel_rfl) (by kernel_rfl) (Nat.le_of_ble_eq_true (by kernel_rfl)) (fun g e => by cases e) (rsF_lasts s m i N cm W.heap.size M) ?_ ?_
  · intro i o L' a w K hi ho hg hgN hLi hout hpre houter hitem h1 h2
    have hcases : i = 0 ∨ i = 1 ∨ i = 2 ∨ i = 3 ∨ i = 4 ∨ i = 5 := by omega
    rcases hcases with rfl | rfl | rfl | rfl | rfl | rfl
    · cases (show some _ = some o from ho)
      exact ⟨rfl, wp_load_row 23 _ rfl _ (houter _ rfl) _ (s.map bv).toArray (0, 0) _ (keep_of hb hg) Tryd.underlying23 rfl (hashV_size _ (hS.out)) (h1 _ _ (grown_refl _ none) rfl (nob rfl) (.inl rfl))⟩
    · cases (show some _ = some o from ho)
      have x7 : a.eval (.tmp 7) = (.agg (s.map bv).toArray) := hitem 0 (by decide) ⟨hpre 0 rfl, hout _ (by decide)⟩
      refine ⟨rfl, wp_call rfl Tryd.func29 (by kernel_rfl) (by kernel_rfl) (args := #[.agg (s.map bv).toArray]) (by simp [x7]) ((RKeys_any s hS.out w).mono ?_)⟩
      rintro e w' ⟨A, ps, c, rfl, k1, k2, k3, k4, hg'⟩
      exact ⟨_, rfl, h1 _ _ hg' ⟨A, ps, c, rfl, k1, k2, k3, k4⟩ (fun g e => by cases (show (none : Option Nat) = some g from e)) (.inl rfl)⟩
    · cases (show some _ = some o from ho)
      exact ⟨rfl, wp_load_row 23 _ rfl _ (houter _ rfl) _ (s.map bv).toArray (0, 0) _ (keep_of hb hg) Tryd.underlying23 rfl (hashV_size _ (hS.out)) (h1 _ _ (grown_refl _ none) rfl (nob rfl) (.inl rfl))⟩
    · cases (show some _ = some o from ho)
      exact ⟨rfl, wp_move rfl (h1 _ _ (grown_refl _ none) (houter _ rfl) (by rw [houter _ rfl]; exact nob rfl) (by rw [houter _ rfl]; exact .inl rfl))⟩
    · cases (show some _ = some o from ho)
      exact ⟨rfl, wp_move rfl (h1 _ _ (grown_refl _ none) (houter _ rfl) (by rw [houter _ rfl]; exact fun g e => by cases (show (none : Option Nat) = some g from e)) (by rw [houter _ rfl]; exact .inl rfl))⟩
    · cases (show some _ = some o from ho)
      obtain ⟨A, ps, c, x8, k1, k2, k3, k4⟩ := hitem 1 (by decide) ⟨hpre 1 rfl, hout _ (by decide)⟩
      replace x8 : a.eval (.tmp 8) = _ := x8
      have x9 : a.eval (.tmp 9) = (.agg (s.map bv).toArray) := hitem 2 (by decide) ⟨hpre 2 rfl, hout _ (by decide)⟩
      have x10 : a.eval (.tmp 10) = .int .i64 ((i + 1 : Nat) : Int) := hitem 3 (by decide) ⟨hpre 3 rfl, hout _ (by decide)⟩
      have x11 : a.eval (.tmp 11) = .slice M N cm := hitem 4 (by decide) ⟨hpre 4 rfl, hout _ (by decide)⟩
      refine ⟨rfl, wp_call rfl Tryd.func28 (by kernel_rfl) (by kernel_rfl) (args := #[.slice A 16 c, .agg (s.map bv).toArray, .int .i64 ((i + 1 : Nat) : Int), .slice M N cm]) (by simp [x8, x9, x10, x11]) ((hby A ps c w k1 k2 k4 k3 hg).mono ?_)⟩
      rintro e w' ⟨v, rfl, hv, hg'⟩
      exact ⟨_, rfl, h1 _ _ hg' (hv.from hg.size) (fun g e => by obtain ⟨C, e1, _⟩ := hv.cells; rw [e1] at e; cases (show (none : Option Nat) = some g from e)) (.inl (by obtain ⟨C, e1, _⟩ := hv.cells; rw [e1]; rfl))⟩
  · intro a wT hgT hend hap ha
    obtain ⟨f, hf⟩ : ∃ f : Nat → Value, f = fun t => a.tmps.getD t undef := ⟨_, rfl⟩
    obtain ⟨g1, c1, g2, c2, g3, c3, q12, hv⟩ := (hend 5 (by decide) (by decide)).1
    have s12 := (congrFun hf 12).trans q12
    clear q12
    rw [← hf] at ha
    clear hend hap
    clear hf
    subst ha
    simp only [fill, rsS, Nat.reduceAdd, Nat.reduceBEq, Bool.or_false, Bool.or_true, cond_true, cond_false, List.drop_succ_cons, List.drop_zero, s12]
    clear s12
    have hV : SigV wT W.heap.size s m i _ := ⟨g1, c1, g2, c2, g3, c3, rfl, hv⟩
    have hb6' := keep_of hb6 hgT
    clear hv
    go_wp2_with (refine wpList_store_row rfl 28 _ _ rfl (w.heap.size + 1) #[.int .i64 ((i : Int) + 1), .slice (some ⟨g1, 0, none⟩) 32 c1, .slice (some ⟨g2, 0, none⟩) 32 c2, .slice (some ⟨g3, 0, none⟩) 4 c3] rfl rfl 28 _ hb6' size_sig rfl (sig_all _ _ _ _ rfl rfl rfl rfl) ?_)
    refine bodyPost_ret (results_cell_row rfl _ _ (w.heap.size + 1) 28 #[.int .i64 ((i : Int) + 1), .slice (some ⟨g1, 0, none⟩) 32 c1, .slice (some ⟨g2, 0, none⟩) 32 c2, .slice (some ⟨g3, 0, none⟩) 4 c3] (0, 0) _ rfl (setRow_heap _ _ _ _ _ _ hb6') Tryd.underlying28 rfl size_sig) rfl ?_
    have hgS : wT.grownBy (wT.setRow (w.heap.size + 1) #[.int .i64 ((i : Int) + 1), .slice (some ⟨g1, 0, none⟩) 32 c1, .slice (some ⟨g2, 0, none⟩) 32 c2, .slice (some ⟨g3, 0, none⟩) 4 c3]) (some (w.heap.size + 1)) := grown_setRow (grown_refl _ _) (.inl rfl) _
    have hV' := (hV.keep hgS (by omega)).from (n0 := w.heap.size) (by omega)
    exact ⟨_, rfl, hV', grown_setRow (grown_same hgW hgT) (.inr (by omega)) _⟩

end Go.Proofs.YtohdifimfhdhoaaDoor
