/- Rings: the program's signature at a height. -/
import Derived.Test.YtohdifimfhdhoaaDoorRingP
namespace Go.Proofs.YtohdifimfhdhoaaDoor
open Go.RowKit

/-- A one-time signature, its blocks of n0 on. -/
def OneV (w : World) (n0 : Nat) (Y m : List UInt8) (v : Value) : Prop := ∃ g1 c1 g2 c2 : Nat, v = .agg #[.slice (some ⟨g1, 0, none⟩) 32 c1, .slice (some ⟨g2, 0, none⟩) 32 c2] ∧ 32 ≤ c1 ∧ c1 ≤ maxLen ∧ 32 ≤ c2 ∧ c2 ≤ maxLen ∧ RdB w (some ⟨g1, 0, none⟩) (partsF (openF Y m) 32) ∧ RdB w (some ⟨g2, 0, none⟩) (partsF (shutF Y m) 32) ∧ n0 ≤ g1 ∧ n0 ≤ g2
theorem OneV.kept {w w' : World} {n0 : Nat} {Y m : List UInt8} {v : Value} (h : OneV w n0 Y m v) (hg : w.grownBy w' none) : OneV w' n0 Y m v := by
  obtain ⟨g1, c1, g2, c2, e, a1, a2, a3, a4, r1, r2, n⟩ := h
  exact ⟨g1, c1, g2, c2, e, a1, a2, a3, a4, r1.kept hg, r2.kept hg, n⟩
def PathV (w : World) (n0 : Nat) (s : List UInt8) (i : Nat) (v : Value) : Prop := ∃ g c3 : Nat, v = .slice (some ⟨g, 0, none⟩) 4 c3 ∧ 4 ≤ c3 ∧ c3 ≤ maxLen ∧ RdB w (some ⟨g, 0, none⟩) (pathR s i) ∧ n0 ≤ g
theorem PathV.kept {w w' : World} {n0 : Nat} {s : List UInt8} {i : Nat} {v : Value} (h : PathV w n0 s i v) (hg : w.grownBy w' none) : PathV w' n0 s i v := by
  obtain ⟨g, c3, e, a1, a2, r1, n⟩ := h
  exact ⟨g, c3, e, a1, a2, r1.kept hg, n⟩
theorem wp_build3 {P : Program} {o : Oper} {a : Act} {w : World} {K : Act → World → Prop} {Q : Exit → Act → World → Prop} {t : TypeId} {x y z : Operand} {u1 u2 u3 v : Value} (ho : o.op = .build t #[(0, x), (1, y), (2, z)]) (hx : a.eval x = u1) (hy : a.eval y = u2) (hz : a.eval z = u3)
    (hrun : (Instr.build t #[(0, u1), (1, u2), (2, u3)]).run P w = .ok v w) (h : K (a.put o.dst v) w) : Oper.wp P o a w K Q := by
  unfold Oper.wp execOp
  simp only [ho, List.map_toArray, List.map_cons, List.map_nil, hx, hy, hz, Sem.run_bind, hrun, Result.andThen_ok, Sem.run_pure]
  exact h
theorem build_sig (n : Int) (a b : Value) (A : Option Addr) (k l : Nat) (w : World) : (Instr.build 28 #[(0, .int .i64 n), (1, .agg #[a, b]), (2, .slice A k l)]).run Tryd.prog w = .ok (.agg #[.int .i64 n, a, b, .slice A k l]) w := by kernel_rfl

def ssS (t : Nat) : Bool := t == 11 || t == 12 || t == 13 || t == 14 || t == 15 || t == 16 || t == 17 || t == 18 || t == 19 || t == 20 || t == 21 || t == 22
def ssDie (_ : Nat) : Nat := 99
def ssOwn (_ : Nat) : Bool := false
def ssAl (k : Nat) : Bool := k == 4 || k == 7 || k == 10
def ssF (s m Y : List UInt8) (i N cm n0 : Nat) (M : Option Addr) : Nat → Value → World → Prop
  | 0 => fun v _ => v = .int .i64 ((i + 1 : Nat) : Int)
  | 1 => fun v _ => v = (.agg (s.map bv).toArray)
  | 2 => fun v _ => v = .int .i64 ((i + 1 : Nat) : Int)
  | 3 => fun v _ => v = (.agg (Y.map bv).toArray)
  | 4 => fun v _ => v = .slice M N cm
  | 5 => fun v w => OneV w n0 Y m v
  | 6 => fun v _ => v = (.agg (s.map bv).toArray)
  | 7 => fun v w => ∃ (A : Option Addr) (ps : List Part) (c : Nat), v = .slice A 16 c ∧ ps.length = 16 ∧ 16 ≤ c ∧ RdP w A ps ∧ leavesOf ps = keysR s
  | 8 => fun v _ => v = .int .i64 ((i + 1 : Nat) : Int)
  | 9 => fun v _ => v = .int .i64 (i : Int)
  | 10 => fun v w => PathV w n0 s i v
  | 11 => fun v w => SigV w n0 s m i v
  | _ => fun _ _ => True
theorem ssF_lasts (s m Y : List UInt8) (i N cm n0 : Nat) (M : Option Addr) : ∀ kq, LastsK ssAl true kq (ssF s m Y i N cm n0 M kq)
  | 0 => LastsK.val _
  | 1 => LastsK.val _
  | 2 => LastsK.val _
  | 3 => LastsK.val _
  | 4 => LastsK.val _
  | 5 => LastsK.calm fun _ _ _ h hg => h.kept hg
  | 6 => LastsK.val _
  | 7 => LastsK.calm fun _ _ _ ⟨A, ps, c, h1, h2, h3, h4, h5⟩ hg => ⟨A, ps, c, h1, h2, h3, h4.kept hg, h5⟩
  | 8 => LastsK.val _
  | 9 => LastsK.val _
  | 10 => LastsK.calm fun _ _ _ h hg => h.kept hg
  | 11 => LastsK.calm fun _ _ _ h hg => h.kept hg
  | _ + 12 => fun _ _ _ _ _ _ _ _ => trivial

set_option maxRecDepth 100000 in
theorem Sign_in (s : List UInt8) (h32 : s.length = 32) (i : Nat) (hi : i < 16) (M : Option Addr) (m : List UInt8) (cm : Nat) (w : World) (hk : Laid2 w) (hm : RdB w M m) (hb : m.length ≤ 1000) :
    Calls Tryd.prog 8 #[.agg (s.map bv).toArray, .int .i64 ((i + 1 : Nat) : Int), .slice M m.length cm] w fun e w' => SigR w s m i e w' := by
  have hsd := fun w' (h : Laid2 w') => Seed_any s h32 (i + 1) (by omega) w' h
  have hsg := fun w' (h : w.grownBy w' none) => Sign_any (seedR s (i + 1)) (seedR_len _ _) M m cm w' (hk.kept h) (hm.kept h) hb
  have hpa := fun (A : Option Addr) (ps : List Part) (c : Nat) w' (hn : ps.length = 16) (hc : 16 ≤ c) (hl : leavesOf ps = keysR s) (hr : RdP w' A ps) (hkw : Laid2 w') => (show Calls Tryd.prog 21 #[.slice A 16 c, .int .i64 (i : Int)] w' (fun e w'' => ∃ g c3 : Nat, e = .returned (.slice (some ⟨g, 0, none⟩) 4 c3) ∧ 4 ≤ c3 ∧ c3 ≤ maxLen ∧ RdB w'' (some ⟨g, 0, none⟩) (pathR s i) ∧ w'.grownBy w'' none ∧ w'.heap.size ≤ g) from by
    refine (Path_any 16 A ps c i w' hn hc (by omega) (by omega) (leaf_le hl) hkw hr).mono ?_
    rintro e w'' ⟨v, rfl, h2, h3, h4, h5⟩
    rw [hl, pathR_n s i hi] at h2
    obtain ⟨g, c3, rfl, e1, e2, e3⟩ := h2.slice (by omega)
    exact ⟨g, c3, rfl, e1, e2, e3, h3, h4 g (by simp [blocksOf])⟩)
  obtain ⟨Y, hY⟩ : ∃ Y, Y = seedR s (i + 1) := ⟨_, rfl⟩
  have HY := Lib.hid hY
  rw [← hY] at hsd hsg
  clear hY
  have hS : Hid (s.length = 32) := h32
  clear h32 hm hb
  generalize hmn : m.length = N at hsg ⊢
  replace hmn := Lib.hid hmn
  have i1 : ¬ ((i + 1 : Nat) : Int) < 1 := by omega
  have i2 : ¬ (16 : Int) < ((i + 1 : Nat) : Int) := by omega
  go_enter Tryd.func8, Tryd.ntmps8
  go_upto_region 3 with (first | (go_at_call 23; refine (isH_yes _ (by omega) (by omega) _).mono ?_; rintro e w5 ⟨rfl, rfl⟩))
  generalize hW : World.alloc (World.alloc w _) _ = W
  have hb : W.heap[w.heap.size]? = some (.cells (s.map bv).toArray 23 (0, 0)) := by rw [← hW]; exact alloc_old (alloc_at rfl)
  have hb6 : W.heap[w.heap.size + 1]? = some (.cells #[.int .i64 0, .slice none 0 0, .slice none 0 0, .slice none 0 0] 28 (0, 0)) := by rw [← hW]; exact alloc_at (by simp)
  have hgW : w.grownBy W none := by rw [← hW]; exact grown_alloc (grown_alloc (grown_refl _ _) _) _
  have hWs : w.heap.size + 2 ≤ W.heap.size := by rw [← hW]; simp
  have hkW := hk.kept hgW
  replace hsg := fun w' (h : W.grownBy w' none) => hsg w' (grown_same hgW h)
  clear hW
  refine wp_region_gt (R := none) (i1 := 999) (q := true) (al := ssAl) 12 (N := 23) (S := ssS) (die := ssDie) (own := ssOwn) (F := ssF s m Y i N cm W.heap.size M) (by kernel_rfl) (Nat.le_of_ble_eq_true (by kernel_rfl)) (by kernel_rfl) (by kernel_rfl) (by kernel_rfl) (by kernel_rfl) (Nat.le_of_ble_eq_true (by kernel_rfl)) (fun g e => by cases e) (ssF_lasts s m Y i N cm W.heap.size M) ?_ ?_
  · intro i o L' a w K hi ho hg hgN hLi hout hpre houter hitem h1 h2
    have hcases : i = 0 ∨ i = 1 ∨ i = 2 ∨ i = 3 ∨ i = 4 ∨ i = 5 ∨ i = 6 ∨ i = 7 ∨ i = 8 ∨ i = 9 ∨ i = 10 ∨ i = 11 := by omega
    rcases hcases with rfl | rfl | rfl | rfl | rfl | rfl | rfl | rfl | rfl | rfl | rfl | rfl
    · cases (show some _ = some o from ho)
      exact ⟨rfl, wp_move rfl (h1 _ _ (grown_refl _ none) (houter _ rfl) (by rw [houter _ rfl]; exact nob rfl) (by rw [houter _ rfl]; exact .inl rfl))⟩
    · cases (show some _ = some o from ho)
      exact ⟨rfl, wp_load_row 23 _ rfl _ (houter _ rfl) _ (s.map bv).toArray (0, 0) _ (keep_of hb hg) Tryd.underlying23 rfl (hashV_size _ (hS.out)) (h1 _ _ (grown_refl _ none) rfl (nob rfl) (.inl rfl))⟩
    · cases (show some _ = some o from ho)
      exact ⟨rfl, wp_move rfl (h1 _ _ (grown_refl _ none) (houter _ rfl) (by rw [houter _ rfl]; exact nob rfl) (by rw [houter _ rfl]; exact .inl rfl))⟩
    · cases (show some _ = some o from ho)
      have x12 : a.eval (.tmp 12) = (.agg (s.map bv).toArray) := hitem 1 (by decide) ⟨hpre 1 rfl, hout _ (by decide)⟩
      have x13 : a.eval (.tmp 13) = .int .i64 ((i + 1 : Nat) : Int) := hitem 2 (by decide) ⟨hpre 2 rfl, hout _ (by decide)⟩
      refine ⟨rfl, wp_call rfl Tryd.func15 (by kernel_rfl) (by kernel_rfl) (args := #[.agg (s.map bv).toArray, .int .i64 ((i + 1 : Nat) : Int)]) (by simp [x12, x13]) ((hsd w (hkW.kept hg)).mono ?_)⟩
      rintro e w' ⟨rfl, hg'⟩
      exact ⟨_, rfl, h1 _ _ hg' rfl (nob rfl) (.inl rfl)⟩
    · cases (show some _ = some o from ho)
      exact ⟨rfl, wp_move rfl (h1 _ _ (grown_refl _ none) (houter _ rfl) (by rw [houter _ rfl]; exact fun g e => by cases (show (none : Option Nat) = some g from e)) (by rw [houter _ rfl]; exact .inl rfl))⟩
    · cases (show some _ = some o from ho)
      have x14 : a.eval (.tmp 14) = (.agg (Y.map bv).toArray) := hitem 3 (by decide) ⟨hpre 3 rfl, hout _ (by decide)⟩
      have x15 : a.eval (.tmp 15) = .slice M N cm := hitem 4 (by decide) ⟨hpre 4 rfl, hout _ (by decide)⟩
      refine ⟨rfl, wp_call rfl Tryd.func24 (by kernel_rfl) (by kernel_rfl) (args := #[.agg (Y.map bv).toArray, .slice M N cm]) (by simp [x14, x15]) ((hsg w hg).mono ?_)⟩
      rintro e w' ⟨g1, c1, g2, c2, rfl, a1, a2, a3, a4, r1, r2, hg', n1, n2⟩
      exact ⟨_, rfl, h1 _ _ hg' ⟨g1, c1, g2, c2, rfl, a1, a2, a3, a4, r1, r2, Nat.le_trans hg.size n1, Nat.le_trans hg.size n2⟩ (nob rfl) (.inl rfl)⟩
    · cases (show some _ = some o from ho)
      exact ⟨rfl, wp_load_row 23 _ rfl _ (houter _ rfl) _ (s.map bv).toArray (0, 0) _ (keep_of hb hg) Tryd.underlying23 rfl (hashV_size _ (hS.out)) (h1 _ _ (grown_refl _ none) rfl (nob rfl) (.inl rfl))⟩
    · cases (show some _ = some o from ho)
      have x17 : a.eval (.tmp 17) = (.agg (s.map bv).toArray) := hitem 6 (by decide) ⟨hpre 6 rfl, hout _ (by decide)⟩
      refine ⟨rfl, wp_call rfl Tryd.func25 (by kernel_rfl) (by kernel_rfl) (args := #[.agg (s.map bv).toArray]) (by simp [x17]) ((leaves_any s hS.out w (hkW.kept hg)).mono ?_)⟩
      rintro e w' ⟨A, ps, c, rfl, k1, k2, k3, k4, hg'⟩
      exact ⟨_, rfl, h1 _ _ hg' ⟨A, ps, c, rfl, k1, k2, k3, k4⟩ (fun g e => by cases (show (none : Option Nat) = some g from e)) (.inl rfl)⟩
    · cases (show some _ = some o from ho)
      exact ⟨rfl, wp_move rfl (h1 _ _ (grown_refl _ none) (houter _ rfl) (by rw [houter _ rfl]; exact nob rfl) (by rw [houter _ rfl]; exact .inl rfl))⟩
    · cases (show some _ = some o from ho)
      have x19 : a.eval (.tmp 19) = .int .i64 ((i + 1 : Nat) : Int) := hitem 8 (by decide) ⟨hpre 8 rfl, hout _ (by decide)⟩
      refine ⟨rfl, wp_call rfl Tryd.func26 (by kernel_rfl) (by kernel_rfl) (args := #[.int .i64 ((i + 1 : Nat) : Int)]) (by simp [x19]) ((calls_grown (place_n i (by omega) w)).mono ?_)⟩
      rintro e w' ⟨rfl, hg'⟩
      exact ⟨_, rfl, h1 _ _ hg' rfl (nob rfl) (.inl rfl)⟩
    · cases (show some _ = some o from ho)
      obtain ⟨A, ps, c, x18, k1, k2, k3, k4⟩ := hitem 7 (by decide) ⟨hpre 7 rfl, hout _ (by decide)⟩
      replace x18 : a.eval (.tmp 18) = _ := x18
      have x20 : a.eval (.tmp 20) = .int .i64 (i : Int) := hitem 9 (by decide) ⟨hpre 9 rfl, hout _ (by decide)⟩
      refine ⟨rfl, wp_call rfl Tryd.func21 (by kernel_rfl) (by kernel_rfl) (args := #[.slice A 16 c, .int .i64 (i : Int)]) (by simp [x18, x20]) ((hpa A ps c w k1 k2 k4 k3 (hkW.kept hg)).mono ?_)⟩
      rintro e w' ⟨g, c3, rfl, a5, a6, r3, hg', n3⟩
      exact ⟨_, rfl, h1 _ _ hg' ⟨g, c3, rfl, a5, a6, r3, Nat.le_trans hg.size n3⟩ (fun g e => by cases (show (none : Option Nat) = some g from e)) (.inl rfl)⟩
    · cases (show some _ = some o from ho)
      have x11 : a.eval (.tmp 11) = .int .i64 ((i + 1 : Nat) : Int) := hitem 0 (by decide) ⟨hpre 0 rfl, hout _ (by decide)⟩
      obtain ⟨g1, c1, g2, c2, x16, a1, a2, a3, a4, r1, r2, n1, n2⟩ := hitem 5 (by decide) ⟨hpre 5 rfl, hout _ (by decide)⟩
      replace x16 : a.eval (.tmp 16) = _ := x16
      obtain ⟨g3, c3, x21, a5, a6, r3, n3⟩ := hitem 10 (by decide) ⟨hpre 10 rfl, hout _ (by decide)⟩
      replace x21 : a.eval (.tmp 21) = _ := x21
      rw [HY.out] at r1 r2
      exact ⟨rfl, wp_build3 rfl x11 x16 x21 (build_sig _ _ _ _ _ _ _) (h1 _ _ (grown_refl _ none) ⟨g1, c1, g2, c2, g3, c3, rfl, a1, a2, a3, a4, a5, a6, r1, r2, r3, n1, n2, n3⟩ (nob rfl) (.inl rfl))⟩
  · intro a wT hgT hend hap ha
    obtain ⟨f, hf⟩ : ∃ f : Nat → Value, f = fun t => a.tmps.getD t undef := ⟨_, rfl⟩
    obtain ⟨g1, c1, g2, c2, g3, c3, q22, hv⟩ := (hend 11 (by decide) (by decide)).1
    have s22 := (congrFun hf 22).trans q22
    clear q22
    rw [← hf] at ha
    clear hend hap
    clear hf
    subst ha
    simp only [fill, ssS, Nat.reduceAdd, Nat.reduceBEq, Bool.or_false, Bool.or_true, cond_true, cond_false, List.drop_succ_cons, List.drop_zero, s22]
    clear s22
    have hV : SigV wT W.heap.size s m i _ := ⟨g1, c1, g2, c2, g3, c3, rfl, hv⟩
    have hb6' := keep_of hb6 hgT
    clear hv
    go_wp2_with (refine wpList_store_row rfl 28 _ _ rfl (w.heap.size + 1) #[.int .i64 ((i : Int) + 1), .slice (some ⟨g1, 0, none⟩) 32 c1, .slice (some ⟨g2, 0, none⟩) 32 c2, .slice (some ⟨g3, 0, none⟩) 4 c3] rfl rfl 28 _ hb6' size_sig rfl (sig_all _ _ _ _ rfl rfl rfl rfl) ?_)
    refine bodyPost_ret (results_cell_row rfl _ _ (w.heap.size + 1) 28 #[.int .i64 ((i : Int) + 1), .slice (some ⟨g1, 0, none⟩) 32 c1, .slice (some ⟨g2, 0, none⟩) 32 c2, .slice (some ⟨g3, 0, none⟩) 4 c3] (0, 0) _ rfl (setRow_heap _ _ _ _ _ _ hb6') Tryd.underlying28 rfl size_sig) rfl ?_
    have hgS : wT.grownBy (wT.setRow (w.heap.size + 1) #[.int .i64 ((i : Int) + 1), .slice (some ⟨g1, 0, none⟩) 32 c1, .slice (some ⟨g2, 0, none⟩) 32 c2, .slice (some ⟨g3, 0, none⟩) 4 c3]) (some (w.heap.size + 1)) := grown_setRow (grown_refl _ _) (.inl rfl) _
    have hV' := (hV.keep hgS (by omega)).from (n0 := w.heap.size) (by omega)
    exact ⟨_, rfl, hV', grown_setRow (grown_same hgW hgT) (.inr (by omega)) _⟩

end Go.Proofs.YtohdifimfhdhoaaDoor
