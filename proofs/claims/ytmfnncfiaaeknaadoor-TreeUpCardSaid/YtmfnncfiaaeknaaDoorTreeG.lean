/- Chapter 4's runs; kinds of comparisons in a law's return. -/
import Derived.Test.YtmfnncfiaaeknaaDoorTreeF
import Derived.Test.YtmfnncfiaaeknaaDoorRegC
namespace Go.Proofs.YtmfnncfiaaeknaaDoor
open Go.RowKit

theorem geq_i64 (x y : Int) (h : y ≤ x) (w : World) : (binOp .geq 3 (.int .i64 x) (.int .i64 y)).run Tryd.prog w = .ok (.bool true) w := by
  have e : (binOp .geq 3 (.int .i64 x) (.int .i64 y)).run Tryd.prog w = .ok (.bool (decide (x ≥ y))) w := by kernel_rfl
  rw [e, decide_eq_true h]
theorem leq_i64 (x y : Int) (h : x ≤ y) (w : World) : (binOp .leq 3 (.int .i64 x) (.int .i64 y)).run Tryd.prog w = .ok (.bool true) w := by
  have e : (binOp .leq 3 (.int .i64 x) (.int .i64 y)).run Tryd.prog w = .ok (.bool (decide (x ≤ y))) w := by kernel_rfl
  rw [e, decide_eq_true h]
theorem eqlI_true (x y : Int) (h : x = y) (w : World) : (binOp .eql 3 (.int .i64 x) (.int .i64 y)).run Tryd.prog w = .ok (.bool true) w := eql_i64 x y w h
theorem guard_geq (x y : Operand) (xv yv : Value) (w : World) : (eqGuard .geq 3 x y xv yv).run Tryd.prog w = .ok () w := by kernel_rfl
theorem guard_leq (x y : Operand) (xv yv : Value) (w : World) : (eqGuard .leq 3 x y xv yv).run Tryd.prog w = .ok () w := by kernel_rfl
theorem guard_boolL (x y : Operand) (b d : Bool) (w : World) : (eqGuard .eql 4 x y (.bool b) (.bool d)).run Tryd.prog w = .ok () w := by cases b <;> cases d <;> kernel_rfl
theorem eqB_same (b : Bool) (w : World) : (binOp .eql 4 (.bool b) (.bool b)).run Tryd.prog w = .ok (.bool true) w := by cases b <;> kernel_rfl
theorem eqlH_same (X : List UInt8) (h : X.length = 32) (w : World) : (binOp .eql 23 (.agg (X.map bv).toArray) (.agg (X.map bv).toArray)).run Tryd.prog w = .ok (.bool true) w := eqlH_true X h w
theorem calls_grown {f : FuncId} {args : Array Value} {w : World} {r : Value} (h : Calls Tryd.prog f args w fun e w' => e = .returned r ∧ w' = w) : Calls Tryd.prog f args w fun e w' => e = .returned r ∧ w.grownBy w' none :=
  h.mono fun e w' h => ⟨h.1, by rw [h.2]; exact grown_refl _ _⟩

theorem halfN_2 : halfN 2 = 1 := halfN_eq (m := 0) (by decide) (by decide)
theorem halfN_3 : halfN 3 = 2 := halfN_eq (m := 1) (by decide) (by decide)
theorem depthN_0_2 : depthN 0 2 = 1 := by rw [depthN_l (by decide) (by rw [halfN_2]; decide), halfN_2, depthN_1 (by decide)]
theorem depthN_0_3 : depthN 0 3 = 2 := by rw [depthN_l (by decide) (by rw [halfN_3]; decide), halfN_3, depthN_0_2]
theorem depthN_2_3 : depthN 2 3 = 1 := by rw [depthN_r (by decide) (by rw [halfN_3]; decide), halfN_3, depthN_1 (by decide)]

def gaS (t : Nat) : Bool := t == 0 || t == 17 || t == 18 || t == 19 || t == 20 || t == 21 || t == 22 || t == 23 || t == 24 || t == 25 || t == 26 || t == 27 || t == 28 || t == 29 || t == 30 || t == 31 || t == 32 || t == 33 || t == 34 || t == 35 || t == 36 || t == 37 || t == 38 || t == 39 || t == 40 || t == 41 || t == 42
def gaDie (_ : Nat) : Nat := 99
def gaOwn (k : Nat) : Bool := k == 5
def gaAl (k : Nat) : Bool := k == 0 || k == 4 || k == 18
def gaF (gl gp cp : Nat) (X P0 : List UInt8) : Nat → Value → World → Prop
  | 0 => fun v _ => v = .slice (some ⟨gp, 0, none⟩) 1 cp
  | 1 => fun v _ => v = .int .i64 ((1 : Nat) : Int)
  | 2 => fun v _ => v = .bool true
  | 3 => fun v _ => v = .bool true
  | 4 => fun v _ => v = .slice (some ⟨gl, 0, none⟩) 3 3
  | 5 => fun v w => OwnHs w v P0 2
  | 6 => fun v _ => v = .int .i64 ((2 : Nat) : Int)
  | 7 => fun v _ => v = .bool true
  | 8 => fun v _ => v = .bool true
  | 9 => fun v _ => v = .bool true
  | 10 => fun v _ => v = .int .i64 5
  | 11 => fun v _ => v = .bool true
  | 12 => fun v _ => v = .bool true
  | 13 => fun v _ => v = .bool true
  | 14 => fun v _ => v = .bool true
  | 15 => fun v _ => v = .bool true
  | 16 => fun v _ => v = .bool true
  | 17 => fun v _ => v = (.agg (X.map bv).toArray)
  | 18 => fun v _ => v = .slice (some ⟨gl, 0, none⟩) 3 3
  | 19 => fun v _ => v = (.agg (X.map bv).toArray)
  | 20 => fun v _ => v = .bool true
  | 21 => fun v _ => v = .bool true
  | 22 => fun v _ => v = .bool true
  | 23 => fun v _ => v = .int .i64 2
  | 24 => fun v _ => v = .bool true
  | 25 => fun v _ => v = .bool true
  | 26 => fun v _ => v = .bool true
  | _ => fun _ _ => True
theorem gaF_lasts (gl gp cp : Nat) (X P0 : List UInt8) : ∀ kq, LastsB gaAl kq (gaF gl gp cp X P0 kq)
  | 0 => LastsB.val _
  | 1 => LastsB.val _
  | 2 => LastsB.val _
  | 3 => LastsB.val _
  | 4 => LastsB.val _
  | 5 => LastsB.ownH rfl _ _
  | 6 => LastsB.val _
  | 7 => LastsB.val _
  | 8 => LastsB.val _
  | 9 => LastsB.val _
  | 10 => LastsB.val _
  | 11 => LastsB.val _
  | 12 => LastsB.val _
  | 13 => LastsB.val _
  | 14 => LastsB.val _
  | 15 => LastsB.val _
  | 16 => LastsB.val _
  | 17 => LastsB.val _
  | 18 => LastsB.val _
  | 19 => LastsB.val _
  | 20 => LastsB.val _
  | 21 => LastsB.val _
  | 22 => LastsB.val _
  | 23 => LastsB.val _
  | 24 => LastsB.val _
  | 25 => LastsB.val _
  | 26 => LastsB.val _
  | _ + 27 => fun _ _ _ _ _ _ _ => trivial

set_option maxRecDepth 100000 in
set_option maxHeartbeats 2000000 in
theorem TreeRuns_any (W0 : World) (hk : Laid2 W0) :
    Calls Tryd.prog 4 #[] W0 fun e w' => e = .returned (.bool true) ∧ W0.grownBy w' none := by
  obtain ⟨ps, hps⟩ : ∃ ps : List Part, ps = [(some ⟨W0.heap.size, 0, none⟩, [1], 1), (some ⟨W0.heap.size + 1, 0, none⟩, [2], 1), (some ⟨W0.heap.size + 2, 0, none⟩, [3], 1)] := ⟨_, rfl⟩
  have hL : leavesOf ps = [[1], [2], [3]] := by rw [hps]; rfl
  have hp3 : ps.length = 3 := by rw [hps]; rfl
  have hpl : ∀ p ∈ ps, p.2.1.length ≤ 1000 := by
    intro p hp
    rw [hps] at hp
    simp only [List.mem_cons, List.not_mem_nil, or_false] at hp
    rcases hp with rfl | rfl | rfl <;> simp
  obtain ⟨X, hX⟩ : ∃ X, X = rootL (leavesOf ps) := ⟨_, rfl⟩
  have hXl : Hid (X.length = 32) := by rw [hX]; exact rootL_len _
  have hla : Hid ((pathL (leavesOf ps) 2).length = 1) := by show _ = _; rw [pathL_len _ _ (by rw [hL]; decide), leavesOf_len, hp3, depthN_2_3]
  have hlb : Hid ((pathL (leavesOf ps) 0).length = 2) := by show _ = _; rw [pathL_len _ _ (by rw [hL]; decide), leavesOf_len, hp3, depthN_0_3]
  have HU : Hid (upL [3] 2 3 (pathL (leavesOf ps) 2).flatten 1 = X) := by
    show _ = _
    have := upL_path (leavesOf ps) 2 3 [3] (by rw [leavesOf_len, hp3]) (by rw [hL]; rfl)
    rw [depthN_2_3] at this
    rw [this, hX]
  have hpa := fun w' (h1 : Laid2 w') (h2 : RdP w' (some ⟨W0.heap.size + 3, 0, none⟩) ps) => Path_any 3 (some ⟨W0.heap.size + 3, 0, none⟩) ps 3 0 w' hp3 (by omega) (by omega) (by omega) hpl h1 h2
  have hpb := fun w' (h1 : Laid2 w') (h2 : RdP w' (some ⟨W0.heap.size + 3, 0, none⟩) ps) => Path_any 3 (some ⟨W0.heap.size + 3, 0, none⟩) ps 3 2 w' hp3 (by omega) (by omega) (by omega) hpl h1 h2
  have hro := fun w' (h1 : Laid2 w') (h2 : RdP w' (some ⟨W0.heap.size + 3, 0, none⟩) ps) => Root_any 3 (some ⟨W0.heap.size + 3, 0, none⟩) ps 3 w' hp3 (by omega) (by omega) hpl h1 h2
  rw [← hX] at hro
  rw [hla.out] at hpb
  rw [hlb.out] at hpa
  obtain ⟨P0, hP0⟩ : ∃ P, P = (pathL (leavesOf ps) 0).flatten := ⟨_, rfl⟩
  obtain ⟨P2, hP2⟩ : ∃ P, P = (pathL (leavesOf ps) 2).flatten := ⟨_, rfl⟩
  rw [← hP0] at hpa
  rw [← hP2] at hpb
  have hP2l : Hid (P2.length = 1 * 32) := by show _ = _; rw [hP2, flat_len _ (pathL_32 _ _), hla.out]
  have HUP : Hid (upL [3] 2 3 P2 1 = X) := by show _ = _; rw [hP2]; exact HU.out
  have hup := fun A' g' c' w' (h1 : RdB w' A' [3]) (h2 : RdB w' (some ⟨g', 0, none⟩) P2) (h3 : Laid2 w') (hc : 1 ≤ c') => Up_any A' [3] 1 (by decide) 2 3 1 (some ⟨g', 0, none⟩) P2 c' w' (by decide) (by decide) depthN_2_3.symm (.inr ⟨g', rfl⟩) hP2l.out hc h1 h2 h3
  rw [HUP.out] at hup
  have hrd : ∀ w', w'.heap[W0.heap.size]? = some (.cells #[bv 1] 5 (0, 0)) → w'.heap[W0.heap.size + 1]? = some (.cells #[bv 2] 5 (0, 0)) → w'.heap[W0.heap.size + 2]? = some (.cells #[bv 3] 5 (0, 0)) → RdAt w' (some ⟨W0.heap.size + 3, 0, none⟩) [.slice (some ⟨W0.heap.size, 0, none⟩) 1 1, .slice (some ⟨W0.heap.size + 1, 0, none⟩) 1 1, .slice (some ⟨W0.heap.size + 2, 0, none⟩) 1 1] → RdP w' (some ⟨W0.heap.size + 3, 0, none⟩) ps := by
    intro w' h1 h2 h3 h4
    rw [hps]
    refine ⟨h4, fun q hq => ?_⟩
    simp only [List.mem_cons, List.not_mem_nil, or_false] at hq
    rcases hq with rfl | rfl | rfl
    · exact rd_row (cs := [bv 1]) h1
    · exact rd_row (cs := [bv 2]) h2
    · exact rd_row (cs := [bv 3]) h3
  have hco : ∀ w', Calls Tryd.prog 18 #[.int .i64 3] w' fun e w'' => e = .returned (.int .i64 5) ∧ w'.grownBy w'' none := fun w' => calls_grown (Cost_n 3 (by omega) (by omega) w')
  have hde0 := fun w' => Depth_any 0 3 (by omega) (by omega) w'
  rw [depthN_0_3] at hde0
  have hde : ∀ w', Calls Tryd.prog 20 #[.int .i64 0, .int .i64 3] w' fun e w'' => e = .returned (.int .i64 2) ∧ w'.grownBy w'' none := fun w' => calls_grown (hde0 w')
  clear hL hX hla hlb HU hP0 hP2 HUP hps hp3 hpl hde0
  change ∀ w', Laid2 w' → RdP w' _ ps → Calls Tryd.prog 16 #[.slice (some ⟨W0.heap.size + 3, 0, none⟩) 3 3, .int .i64 0] w' _ at hpa
  change ∀ w', Laid2 w' → RdP w' _ ps → Calls Tryd.prog 16 #[.slice (some ⟨W0.heap.size + 3, 0, none⟩) 3 3, .int .i64 2] w' _ at hpb
  change ∀ A' g' c' w', RdB w' A' [3] → RdB w' (some ⟨g', 0, none⟩) P2 → Laid2 w' → 1 ≤ c' → Calls Tryd.prog 17 #[.slice A' 1 1, .int .i64 2, .int .i64 3, .slice (some ⟨g', 0, none⟩) 1 c'] w' _ at hup
  go_enter Tryd.func4, Tryd.ntmps4
  go_upto_region 2 with fail
  generalize hW : World.alloc (World.alloc (World.alloc (World.alloc W0 _) _) _) _ = W1
  have hg1 : W0.grownBy W1 none := by rw [← hW]; exact grown_alloc (grown_alloc (grown_alloc (grown_alloc (grown_refl _ _) _) _) _) _
  have hrP : RdP W1 (some ⟨W0.heap.size + 3, 0, none⟩) ps := by
    rw [← hW]
    exact hrd _ (alloc_old (alloc_old (alloc_old (alloc_at rfl)))) (alloc_old (alloc_old (alloc_at (by simp)))) (alloc_old (alloc_at (by simp))) (rd_row (cs := [_, _, _]) (alloc_at (by simp)))
  clear hW hrd
  generalize W0.heap.size + 3 = gl at hpa hpb hro hrP ⊢
  go_upto_region 4 with (first
    | (go_at_call 16; refine (hpb _ (hk.kept hg1) hrP).mono ?_; rintro e w5 ⟨v, rfl, ho5, hg5, hn5, hl5⟩; obtain ⟨gp, cp, rfl, hcp1, hcp2, hrp⟩ := ho5.slice (by omega))
    | (go_at_call 17; refine (hup _ gp cp _ (rd_row (cs := [bv 3]) (alloc_at rfl)) (hrp.alloc _) ((hk.kept (grown_same hg1 hg5)).kept (grown_alloc (grown_refl _ _) _)) hcp1).mono ?_; rintro e w6 ⟨rfl, hg6⟩)
    | (refine wpList_store_row rfl 23 _ _ rfl (w6.heap.size) (X.map bv).toArray rfl rfl 23 _ (alloc_at rfl) (hashV_size X hXl.out) (by rw [show (X.map bv).toArray.size = 32 from by rw [List.size_toArray, List.length_map, hXl.out]]; rfl) (bv_all' _) ?_; generalize hw3 : World.setRow _ _ _ = W; have HW3 := new_hash hw3; clear hw3))
  have hb3 := HW3.1
  have hgW : W0.grownBy W none := grown_same (grown_same (grown_same hg1 hg5) (grown_alloc (grown_refl _ _) _)) (grown_same hg6 HW3.2)
  have hg1W : W1.grownBy W none := grown_same hg5 (grown_same (grown_alloc (grown_refl _ _) _) (grown_same hg6 HW3.2))
  replace hk := hk.kept hgW
  replace hrP := hrP.kept hg1W
  replace hpa := fun w' (h : W.grownBy w' none) => hpa w' (hk.kept h) (hrP.kept h)
  replace hro := fun w' (h : W.grownBy w' none) => hro w' (hk.kept h) (hrP.kept h)
  clear HW3 hg5 hg6 hn5 hl5 ho5 hrp hpb hup hg1 hg1W
  refine wp_region_gc (al := gaAl) 27 (N := 43) (S := gaS) (die := gaDie) (own := gaOwn) (F := gaF gl gp cp X P0) (by kernel_rfl) (Nat.le_of_ble_eq_true (by kernel_rfl)) (fun h => absurd (show 27 < 27 from h) (Nat.lt_irrefl _)) (fun h => absurd (show 27 < 27 from h) (Nat.lt_irrefl _)) (by kernel_rfl) (by kernel_rfl) (Nat.le_of_ble_eq_true (by kernel_rfl)) (gaF_lasts gl gp cp X P0) ?_ ?_
  · intro i o L' a w K hi ho hg hLi hout hpre houter hitem hap' h1 h2 h3 h4
    have hcases : i = 0 ∨ i = 1 ∨ i = 2 ∨ i = 3 ∨ i = 4 ∨ i = 5 ∨ i = 6 ∨ i = 7 ∨ i = 8 ∨ i = 9 ∨ i = 10 ∨ i = 11 ∨ i = 12 ∨ i = 13 ∨ i = 14 ∨ i = 15 ∨ i = 16 ∨ i = 17 ∨ i = 18 ∨ i = 19 ∨ i = 20 ∨ i = 21 ∨ i = 22 ∨ i = 23 ∨ i = 24 ∨ i = 25 ∨ i = 26 := by omega
    rcases hcases with rfl | rfl | rfl | rfl | rfl | rfl | rfl | rfl | rfl | rfl | rfl | rfl | rfl | rfl | rfl | rfl | rfl | rfl | rfl | rfl | rfl | rfl | rfl | rfl | rfl | rfl | rfl
    · cases (show some _ = some o from ho)
      refine .inl ?_
      exact ⟨rfl, wp_move rfl (h1 ⟨_, rfl⟩ _ _ (grown_refl _ none) (houter _ rfl) (by rw [houter _ rfl]; exact nobl rfl) (by rw [houter _ rfl]; exact FreshB.none rfl))⟩
    · cases (show some _ = some o from ho)
      refine .inl ?_
      exact ⟨rfl, wp_len rfl (by kernel_rfl) (hitem 0 (by decide) ⟨hpre 0 rfl, hout _ (by decide)⟩) (h1 ⟨_, rfl⟩ _ _ (grown_refl _ none) rfl (nobl rfl) (FreshB.none rfl))⟩
    · cases (show some _ = some o from ho)
      refine .inl ?_
      exact ⟨rfl, wp_bin rfl (hitem 1 (by decide) ⟨hpre 1 rfl, hout _ (by decide)⟩) (rfl) (guard_int _ _ _ _ _) (eql_i64 _ _ _ (rfl)) (h1 ⟨_, rfl⟩ _ _ (grown_refl _ none) rfl (nobl rfl) (FreshB.none rfl))⟩
    · cases (show some _ = some o from ho)
      refine .inl ?_
      have hx := hitem 2 (by decide) ⟨hpre 2 rfl, hout _ (by decide)⟩
      exact ⟨rfl, wp_move rfl (h1 ⟨_, rfl⟩ _ _ (grown_refl _ none) hx (by rw [show a.eval (.tmp 19) = .bool true from hx]; exact nobl rfl) (by rw [show a.eval (.tmp 19) = .bool true from hx]; exact FreshB.none rfl))⟩
    · cases (show some _ = some o from ho)
      refine .inl ?_
      exact ⟨wanted_of (j := 3) rfl rfl (hitem 3 (by decide) ⟨hpre 3 rfl, hout _ (by decide)⟩), wp_move rfl (h1 ⟨_, rfl⟩ _ _ (grown_refl _ none) (houter _ rfl) (by rw [houter _ rfl]; exact nobl rfl) (by rw [houter _ rfl]; exact FreshB.none rfl))⟩
    · cases (show some _ = some o from ho)
      refine .inl ?_
      have x21 : a.eval (.tmp 21) = .slice (some ⟨gl, 0, none⟩) 3 3 := hitem 4 (by decide) ⟨hpre 4 rfl, hout _ (by decide)⟩
      refine ⟨wanted_of (j := 3) rfl rfl (hitem 3 (by decide) ⟨hpre 3 rfl, hout _ (by decide)⟩), wp_call rfl Tryd.func16 (by kernel_rfl) (by kernel_rfl) (args := #[.slice (some ⟨gl, 0, none⟩) 3 3, .int .i64 0]) (by simp [eval_const, x21]) ((hpa w hg).mono ?_)⟩
      rintro e w' ⟨v, rfl, hf', hg', hn', ht'⟩
      exact ⟨_, rfl, h1 ⟨_, rfl⟩ _ _ hg' hf' ht' (FreshB.new hn')⟩
    · cases (show some _ = some o from ho)
      refine .inl ?_
      obtain ⟨g, c, e1, -⟩ := OwnHs.slice (hitem 5 (by decide) ⟨hpre 5 rfl, hout _ (by decide)⟩) (by omega)
      exact ⟨wanted_of (j := 3) rfl rfl (hitem 3 (by decide) ⟨hpre 3 rfl, hout _ (by decide)⟩), wp_len rfl (by kernel_rfl) e1 (h1 ⟨_, rfl⟩ _ _ (grown_refl _ none) rfl (nobl rfl) (FreshB.none rfl))⟩
    · cases (show some _ = some o from ho)
      refine .inl ?_
      exact ⟨wanted_of (j := 3) rfl rfl (hitem 3 (by decide) ⟨hpre 3 rfl, hout _ (by decide)⟩), wp_bin rfl (hitem 6 (by decide) ⟨hpre 6 rfl, hout _ (by decide)⟩) (rfl) (guard_int _ _ _ _ _) (eql_i64 _ _ _ (rfl)) (h1 ⟨_, rfl⟩ _ _ (grown_refl _ none) rfl (nobl rfl) (FreshB.none rfl))⟩
    · cases (show some _ = some o from ho)
      refine .inl ?_
      have hc := hitem 3 (by decide) ⟨hpre 3 rfl, hout _ (by decide)⟩
      have hx := hitem 7 (by decide) ⟨hpre 7 rfl, hout _ (by decide)⟩
      exact ⟨rfl, wp_pick rfl hc (h1 ⟨_, rfl⟩ _ _ (grown_refl _ none) hx (by rw [show a.eval (.tmp 24) = .bool true from hx]; exact nobl rfl) (by rw [show a.eval (.tmp 24) = .bool true from hx]; exact FreshB.none rfl))⟩
    · cases (show some _ = some o from ho)
      refine .inl ?_
      have hx := hitem 8 (by decide) ⟨hpre 8 rfl, hout _ (by decide)⟩
      exact ⟨rfl, wp_move rfl (h1 ⟨_, rfl⟩ _ _ (grown_refl _ none) hx (by rw [show a.eval (.tmp 25) = .bool true from hx]; exact nobl rfl) (by rw [show a.eval (.tmp 25) = .bool true from hx]; exact FreshB.none rfl))⟩
    · cases (show some _ = some o from ho)
      refine .inl ?_
      refine ⟨wanted_of (j := 9) rfl rfl (hitem 9 (by decide) ⟨hpre 9 rfl, hout _ (by decide)⟩), wp_call rfl Tryd.func18 (by kernel_rfl) (by kernel_rfl) (args := #[.int .i64 3]) (by simp [eval_const]) ((hco w).mono ?_)⟩
      rintro e w' ⟨rfl, hg'⟩
      exact ⟨_, rfl, h1 ⟨_, rfl⟩ _ _ hg' rfl (nobl rfl) (FreshB.none rfl)⟩
    · cases (show some _ = some o from ho)
      refine .inl ?_
      exact ⟨wanted_of (j := 9) rfl rfl (hitem 9 (by decide) ⟨hpre 9 rfl, hout _ (by decide)⟩), wp_bin rfl (hitem 10 (by decide) ⟨hpre 10 rfl, hout _ (by decide)⟩) (rfl) (guard_int _ _ _ _ _) (eql_i64 _ _ _ (rfl)) (h1 ⟨_, rfl⟩ _ _ (grown_refl _ none) rfl (nobl rfl) (FreshB.none rfl))⟩
    · cases (show some _ = some o from ho)
      refine .inl ?_
      have hc := hitem 9 (by decide) ⟨hpre 9 rfl, hout _ (by decide)⟩
      have hx := hitem 11 (by decide) ⟨hpre 11 rfl, hout _ (by decide)⟩
      exact ⟨rfl, wp_pick rfl hc (h1 ⟨_, rfl⟩ _ _ (grown_refl _ none) hx (by rw [show a.eval (.tmp 28) = .bool true from hx]; exact nobl rfl) (by rw [show a.eval (.tmp 28) = .bool true from hx]; exact FreshB.none rfl))⟩
    · cases (show some _ = some o from ho)
      refine .inl ?_
      have hx := hitem 12 (by decide) ⟨hpre 12 rfl, hout _ (by decide)⟩
      exact ⟨rfl, wp_move rfl (h1 ⟨_, rfl⟩ _ _ (grown_refl _ none) hx (by rw [show a.eval (.tmp 29) = .bool true from hx]; exact nobl rfl) (by rw [show a.eval (.tmp 29) = .bool true from hx]; exact FreshB.none rfl))⟩
    · cases (show some _ = some o from ho)
      refine .inl ?_
      exact ⟨wanted_of (j := 13) rfl rfl (hitem 13 (by decide) ⟨hpre 13 rfl, hout _ (by decide)⟩), wp_move rfl (h1 ⟨_, rfl⟩ _ _ (grown_refl _ none) (houter _ rfl) (by rw [houter _ rfl]; exact nobl rfl) (by rw [houter _ rfl]; exact FreshB.none rfl))⟩
    · cases (show some _ = some o from ho)
      refine .inl ?_
      have hc := hitem 13 (by decide) ⟨hpre 13 rfl, hout _ (by decide)⟩
      have hx := hitem 14 (by decide) ⟨hpre 14 rfl, hout _ (by decide)⟩
      exact ⟨rfl, wp_pick rfl hc (h1 ⟨_, rfl⟩ _ _ (grown_refl _ none) hx (by rw [show a.eval (.tmp 31) = .bool true from hx]; exact nobl rfl) (by rw [show a.eval (.tmp 31) = .bool true from hx]; exact FreshB.none rfl))⟩
    · cases (show some _ = some o from ho)
      refine .inl ?_
      have hx := hitem 15 (by decide) ⟨hpre 15 rfl, hout _ (by decide)⟩
      exact ⟨rfl, wp_move rfl (h1 ⟨_, rfl⟩ _ _ (grown_refl _ none) hx (by rw [show a.eval (.tmp 32) = .bool true from hx]; exact nobl rfl) (by rw [show a.eval (.tmp 32) = .bool true from hx]; exact FreshB.none rfl))⟩
    · cases (show some _ = some o from ho)
      refine .inl ?_
      exact ⟨wanted_of (j := 16) rfl rfl (hitem 16 (by decide) ⟨hpre 16 rfl, hout _ (by decide)⟩), wp_load_row 23 _ rfl _ (houter _ rfl) _ (X.map bv).toArray (0, 0) _ (keep_of hb3 hg) Tryd.underlying23 rfl (hashV_size _ (hXl.out)) (h1 ⟨_, rfl⟩ _ _ (grown_refl _ none) rfl (nobl (blocks_bytes _)) (FreshB.none (blocks_bytes _)))⟩
    · cases (show some _ = some o from ho)
      refine .inl ?_
      exact ⟨wanted_of (j := 16) rfl rfl (hitem 16 (by decide) ⟨hpre 16 rfl, hout _ (by decide)⟩), wp_move rfl (h1 ⟨_, rfl⟩ _ _ (grown_refl _ none) (houter _ rfl) (by rw [houter _ rfl]; exact nobl rfl) (by rw [houter _ rfl]; exact FreshB.none rfl))⟩
    · cases (show some _ = some o from ho)
      refine .inl ?_
      have x35 : a.eval (.tmp 35) = .slice (some ⟨gl, 0, none⟩) 3 3 := hitem 18 (by decide) ⟨hpre 18 rfl, hout _ (by decide)⟩
      refine ⟨wanted_of (j := 16) rfl rfl (hitem 16 (by decide) ⟨hpre 16 rfl, hout _ (by decide)⟩), wp_call rfl Tryd.func19 (by kernel_rfl) (by kernel_rfl) (args := #[.slice (some ⟨gl, 0, none⟩) 3 3]) (by simp [x35]) ((hro w hg).mono ?_)⟩
      rintro e w' ⟨rfl, hg'⟩
      exact ⟨_, rfl, h1 ⟨_, rfl⟩ _ _ hg' rfl (nobl (blocks_bytes _)) (FreshB.none (blocks_bytes _))⟩
    · cases (show some _ = some o from ho)
      refine .inl ?_
      exact ⟨wanted_of (j := 16) rfl rfl (hitem 16 (by decide) ⟨hpre 16 rfl, hout _ (by decide)⟩), wp_bin rfl (hitem 17 (by decide) ⟨hpre 17 rfl, hout _ (by decide)⟩) (hitem 19 (by decide) ⟨hpre 19 rfl, hout _ (by decide)⟩) (guard_hash _ _ _ _ _) (eqlH_same X hXl.out _) (h1 ⟨_, rfl⟩ _ _ (grown_refl _ none) rfl (nobl rfl) (FreshB.none rfl))⟩
    · cases (show some _ = some o from ho)
      refine .inl ?_
      have hc := hitem 16 (by decide) ⟨hpre 16 rfl, hout _ (by decide)⟩
      have hx := hitem 20 (by decide) ⟨hpre 20 rfl, hout _ (by decide)⟩
      exact ⟨rfl, wp_pick rfl hc (h1 ⟨_, rfl⟩ _ _ (grown_refl _ none) hx (by rw [show a.eval (.tmp 37) = .bool true from hx]; exact nobl rfl) (by rw [show a.eval (.tmp 37) = .bool true from hx]; exact FreshB.none rfl))⟩
    · cases (show some _ = some o from ho)
      refine .inl ?_
      have hx := hitem 21 (by decide) ⟨hpre 21 rfl, hout _ (by decide)⟩
      exact ⟨rfl, wp_move rfl (h1 ⟨_, rfl⟩ _ _ (grown_refl _ none) hx (by rw [show a.eval (.tmp 38) = .bool true from hx]; exact nobl rfl) (by rw [show a.eval (.tmp 38) = .bool true from hx]; exact FreshB.none rfl))⟩
    · cases (show some _ = some o from ho)
      refine .inl ?_
      refine ⟨wanted_of (j := 22) rfl rfl (hitem 22 (by decide) ⟨hpre 22 rfl, hout _ (by decide)⟩), wp_call rfl Tryd.func20 (by kernel_rfl) (by kernel_rfl) (args := #[.int .i64 0, .int .i64 3]) (by simp [eval_const]) ((hde w).mono ?_)⟩
      rintro e w' ⟨rfl, hg'⟩
      exact ⟨_, rfl, h1 ⟨_, rfl⟩ _ _ hg' rfl (nobl rfl) (FreshB.none rfl)⟩
    · cases (show some _ = some o from ho)
      refine .inl ?_
      exact ⟨wanted_of (j := 22) rfl rfl (hitem 22 (by decide) ⟨hpre 22 rfl, hout _ (by decide)⟩), wp_bin rfl (hitem 23 (by decide) ⟨hpre 23 rfl, hout _ (by decide)⟩) (rfl) (guard_int _ _ _ _ _) (eql_i64 _ _ _ (rfl)) (h1 ⟨_, rfl⟩ _ _ (grown_refl _ none) rfl (nobl rfl) (FreshB.none rfl))⟩
    · cases (show some _ = some o from ho)
      refine .inl ?_
      have hc := hitem 22 (by decide) ⟨hpre 22 rfl, hout _ (by decide)⟩
      have hx := hitem 24 (by decide) ⟨hpre 24 rfl, hout _ (by decide)⟩
      exact ⟨rfl, wp_pick rfl hc (h1 ⟨_, rfl⟩ _ _ (grown_refl _ none) hx (by rw [show a.eval (.tmp 41) = .bool true from hx]; exact nobl rfl) (by rw [show a.eval (.tmp 41) = .bool true from hx]; exact FreshB.none rfl))⟩
    · cases (show some _ = some o from ho)
      refine .inl ?_
      have hx := hitem 25 (by decide) ⟨hpre 25 rfl, hout _ (by decide)⟩
      exact ⟨rfl, wp_assign rfl (h1 ⟨_, rfl⟩ _ _ (grown_refl _ none) hx (by rw [show a.eval (.tmp 42) = .bool true from hx]; exact nobl rfl) (by rw [show a.eval (.tmp 42) = .bool true from hx]; exact FreshB.none rfl))⟩
  · intro a wT hgT hend hap ha
    obtain ⟨f, hf⟩ : ∃ f : Nat → Value, f = fun t => a.tmps.getD t undef := ⟨_, rfl⟩
    have s0 : f 0 = .bool true := by rw [hf]; exact (hend 26 (by decide) (by decide)).1
    rw [← hf] at ha
    clear hend hap
    clear hf
    subst ha
    simp only [fill, gaS, Nat.reduceAdd, Nat.reduceBEq, Bool.or_false, Bool.or_true, cond_true, cond_false, List.drop_succ_cons, List.drop_zero, s0]
    clear s0
    go_wp2_with fail
    go_ret
    exact ⟨rfl, grown_same hgW hgT⟩
end Go.Proofs.YtmfnncfiaaeknaaDoor
