/- Merkle trees: paths; the program's and the document's own. -/
import Derived.Test.YtmfnncfiaaeknaaDoorTreeB
namespace Go.Proofs.YtmfnncfiaaeknaaDoor
open Go.RowKit

/-- A call's answer that is a row of hashes of its own: new blocks, nothing else touched. -/
def PathAt (w : World) (P : List UInt8) (n : Nat) (e : Ending) (w' : World) : Prop := ∃ v, e = .returned v ∧ OwnHs w' v P n ∧ w.grownBy w' none ∧ (∀ g ∈ blocksOf v, w.heap.size ≤ g) ∧ ∀ g ∈ blocksOf v, g < w'.heap.size
theorem PathAt.nil (w w' : World) (h : w.grownBy w' none) : PathAt w [] 0 (.returned (.slice none 0 0)) w' :=
  ⟨_, rfl, OwnHs.nil _, h, fun g e => (by cases e), fun g e => (by cases e)⟩
theorem PathAt.from {w0 w : World} {P : List UInt8} {n : Nat} {e : Ending} {w' : World} (h : PathAt w P n e w') (hg : w0.grownBy w none) : PathAt w0 P n e w' := by
  obtain ⟨v, h1, h2, h3, h4, h5⟩ := h
  exact ⟨v, h1, h2, grown_same hg h3, fun g e => Nat.le_trans hg.size (h4 g e), h5⟩
def Hash1 (Y : List UInt8) (v : Value) (w : World) : Prop := ∃ b, v = .slice (some ⟨b, 0, none⟩) 1 1 ∧ RdB w (some ⟨b, 0, none⟩) Y
theorem LastsB.hash1 {al : Nat → Bool} {k : Nat} (ha : al k = false) (Y : List UInt8) : LastsB al k (Hash1 Y) := by
  rintro v w w' row ⟨b, rfl, h⟩ hg hne
  exact ⟨b, rfl, h.keep hg (fun ad e => by cases e; exact hne b (by simp [bl, ha, blocksOf]))⟩
theorem sub_nat (i k : Nat) (h : k ≤ i) (hi : i ≤ 1000000) (w : World) : (binOp .sub 3 (.int .i64 (i : Int)) (.int .i64 (k : Int))).run Tryd.prog w = .ok (.int .i64 ((i - k : Nat) : Int)) w := by
  rw [show ((i - k : Nat) : Int) = (i : Int) - (k : Int) by omega]
  have e : (binOp .sub 3 (.int .i64 (i : Int)) (.int .i64 (k : Int))).run Tryd.prog w = .ok (.int .i64 (IntKind.i64.wrap ((i : Int) - (k : Int)))) w := by kernel_rfl
  rw [e, IntWalk.i64_in _ ⟨by omega, by omega⟩]
theorem guard_subI (x y : Operand) (xv yv : Value) (w : World) : (eqGuard .sub 3 x y xv yv).run Tryd.prog w = .ok () w := by kernel_rfl
theorem pathL_le (l : List (List UInt8)) (i : Nat) : (pathL l i).length ≤ l.length := by
  by_cases h : i < l.length
  · rw [pathL_len l i h]; exact depthN_lt _ _
  · rw [pathL_0 (.inr (by omega))]; exact Nat.zero_le _

set_option maxRecDepth 100000 in
theorem Path_neg (n : Nat) (A : Option Addr) (c : Nat) (i : Int) (hi : i < 0) (w0 : World) :
    Calls Tryd.prog 16 #[.slice A n c, .int .i64 i] w0 fun e w' => PathAt w0 [] 0 e w' := by
  go_enter Tryd.func16, Tryd.ntmps16
  go_wp2_with fail
  go_ret
  exact PathAt.nil _ _ (grown_refl _ _)
def plS (t : Nat) : Bool := t == 4 || t == 25 || t == 26 || t == 27 || t == 28 || t == 29 || t == 30 || t == 31 || t == 32 || t == 33 || t == 34 || t == 35
def plDie (k : Nat) : Nat := if k = 4 then 10 else if k = 10 then 11 else 99
def plOwn (k : Nat) : Bool := k == 4 || k == 10 || k == 11
def plAl (k : Nat) : Bool := k == 0 || k == 2 || k == 5 || k == 7
def plF (A A2 : Option Addr) (n k m c c2 i d : Nat) (P Y : List UInt8) : Nat → Value → World → Prop
  | 0 => fun v _ => v = .slice A n c
  | 1 => fun v _ => v = .int .i64 (k : Int)
  | 2 => fun v _ => v = .slice A k c
  | 3 => fun v _ => v = .int .i64 (i : Int)
  | 4 => fun v w => OwnHs w v P d
  | 5 => fun v _ => v = .slice A n c
  | 6 => fun v _ => v = .int .i64 (k : Int)
  | 7 => fun v _ => v = .slice A2 m c2
  | 8 => fun v _ => v = (.agg (Y.map bv).toArray)
  | 9 => Hash1 Y
  | 10 => fun v w => OwnHs w v (P ++ Y) (d + 1)
  | 11 => fun v w => OwnHs w v (P ++ Y) (d + 1)
  | _ => fun _ _ => True
theorem plF_lasts (A A2 : Option Addr) (n k m c c2 i d : Nat) (P Y : List UInt8) : ∀ kq, LastsB plAl kq (plF A A2 n k m c c2 i d P Y kq)
  | 0 => LastsB.val _
  | 1 => LastsB.val _
  | 2 => LastsB.val _
  | 3 => LastsB.val _
  | 4 => LastsB.ownH rfl _ _
  | 5 => LastsB.val _
  | 6 => LastsB.val _
  | 7 => LastsB.val _
  | 8 => LastsB.val _
  | 9 => LastsB.hash1 rfl _
  | 10 => LastsB.ownH rfl _ _
  | 11 => LastsB.ownH rfl _ _
  | _ + 12 => fun _ _ _ _ _ _ _ => trivial
def prS (t : Nat) : Bool := t == 4 || t == 36 || t == 37 || t == 38 || t == 39 || t == 40 || t == 41 || t == 42 || t == 43 || t == 44 || t == 45 || t == 46 || t == 47 || t == 48
def prDie (k : Nat) : Nat := if k = 6 then 12 else if k = 12 then 13 else 99
def prOwn (k : Nat) : Bool := k == 6 || k == 12 || k == 13
def prAl (k : Nat) : Bool := k == 0 || k == 2 || k == 7 || k == 9
def prF (A A2 : Option Addr) (n k m c c2 i i2 d : Nat) (P Y : List UInt8) : Nat → Value → World → Prop
  | 0 => fun v _ => v = .slice A n c
  | 1 => fun v _ => v = .int .i64 (k : Int)
  | 2 => fun v _ => v = .slice A2 m c2
  | 3 => fun v _ => v = .int .i64 (i : Int)
  | 4 => fun v _ => v = .int .i64 (k : Int)
  | 5 => fun v _ => v = .int .i64 (i2 : Int)
  | 6 => fun v w => OwnHs w v P d
  | 7 => fun v _ => v = .slice A n c
  | 8 => fun v _ => v = .int .i64 (k : Int)
  | 9 => fun v _ => v = .slice A k c
  | 10 => fun v _ => v = (.agg (Y.map bv).toArray)
  | 11 => Hash1 Y
  | 12 => fun v w => OwnHs w v (P ++ Y) (d + 1)
  | 13 => fun v w => OwnHs w v (P ++ Y) (d + 1)
  | _ => fun _ _ => True
theorem prF_lasts (A A2 : Option Addr) (n k m c c2 i i2 d : Nat) (P Y : List UInt8) : ∀ kq, LastsB prAl kq (prF A A2 n k m c c2 i i2 d P Y kq)
  | 0 => LastsB.val _
  | 1 => LastsB.val _
  | 2 => LastsB.val _
  | 3 => LastsB.val _
  | 4 => LastsB.val _
  | 5 => LastsB.val _
  | 6 => LastsB.ownH rfl _ _
  | 7 => LastsB.val _
  | 8 => LastsB.val _
  | 9 => LastsB.val _
  | 10 => LastsB.val _
  | 11 => LastsB.hash1 rfl _
  | 12 => LastsB.ownH rfl _ _
  | 13 => LastsB.ownH rfl _ _
  | _ + 14 => fun _ _ _ _ _ _ _ => trivial

set_option maxRecDepth 100000 in
set_option maxHeartbeats 2000000 in
theorem Path_any : ∀ (n : Nat) (A : Option Addr) (ps : List Part) (c i : Nat) (w0 : World), ps.length = n → n ≤ c → n ≤ 500 → i ≤ 1000 → (∀ p ∈ ps, p.2.1.length ≤ 1000) → Laid2 w0 → RdP w0 A ps →
    Calls Tryd.prog 16 #[.slice A n c, .int .i64 (i : Int)] w0 fun e w' => PathAt w0 (pathL (leavesOf ps) i).flatten (pathL (leavesOf ps) i).length e w' := by
  intro n
  induction n using Nat.strongRecOn with
  | ind n ih =>
  intro A ps c i w0 hn hc h5 hi hl hk hr
  have i0 : ¬ (i : Int) < 0 := by omega
  by_cases h0 : n ≤ i
  · have i1 : (n : Int) ≤ (i : Int) := by omega
    rw [pathL_0 (.inr (by rw [leavesOf_len]; omega))]
    go_enter Tryd.func16, Tryd.ntmps16
    go_wp2_with fail
    go_ret
    exact PathAt.nil _ _ (grown_refl _ _)
  have i1 : ¬ (n : Int) ≤ (i : Int) := by omega
  by_cases h1 : n = 1
  · subst h1
    rw [pathL_0 (.inl (by rw [leavesOf_len]; omega))]
    go_enter Tryd.func16, Tryd.ntmps16
    go_wp2_with fail
    go_ret
    exact PathAt.nil _ _ (grown_refl _ _)
  have h2 : 2 ≤ n := by omega
  have n1 : ¬ (n : Int) = 1 := by omega
  have hls := fun w' => leftSize_any n (by omega) (by omega) w'
  have hk1 := halfN_pos n
  have hk2 := halfN_lt h2
  have hlo := fun w' => sl_loP A n c (halfN n) (by omega) w'
  by_cases hik : i < halfN n
  · have hpa := fun w' (hg : w0.grownBy w' none) => ih (halfN n) hk2 A (ps.take (halfN n)) c i w' (by rw [List.length_take]; omega) (by omega) (by omega) hi (fun p hp => hl p (List.mem_of_mem_take hp)) (hk.kept hg) ((hr.take _).kept hg)
    have hro := fun w' (hg : w0.grownBy w' none) => Root_any (n - halfN n) (if c = halfN n then A else A.map (·.add (halfN n))) (ps.drop (halfN n)) (c - halfN n) w' (by rw [List.length_drop]; omega) (by omega) (by omega) (fun p hp => hl p (List.mem_of_mem_drop hp)) (hk.kept hg) ((hr.cut (by omega)).kept hg)
    obtain ⟨P, hP⟩ : ∃ P, P = (pathL (leavesOf (ps.take (halfN n))) i).flatten := ⟨_, rfl⟩
    obtain ⟨d, hd0⟩ : ∃ d, d = (pathL (leavesOf (ps.take (halfN n))) i).length := ⟨_, rfl⟩
    obtain ⟨Y, hY⟩ : ∃ Y, Y = rootL (leavesOf (ps.drop (halfN n))) := ⟨_, rfl⟩
    have hYl : Hid (Y.length = 32) := by rw [hY]; exact rootL_len _
    have hd : Hid (d ≤ 1000) := by
      show d ≤ 1000
      have := pathL_le (leavesOf (ps.take (halfN n))) i
      rw [leavesOf_len, List.length_take] at this
      omega
    have HP : Hid ((pathL (leavesOf ps) i).flatten = P ++ Y) := by
      show _ = _
      rw [pathL_l (by rw [leavesOf_len]; omega) (by rw [leavesOf_len, hn]; exact hik), leavesOf_len, hn, ← leavesOf_take, ← leavesOf_drop, List.flatten_append, List.flatten_singleton, ← hP, ← hY]
    have HD : Hid ((pathL (leavesOf ps) i).length = d + 1) := by
      show _ = _
      rw [pathL_l (by rw [leavesOf_len]; omega) (by rw [leavesOf_len, hn]; exact hik), leavesOf_len, hn, ← leavesOf_take, ← leavesOf_drop, List.length_append, List.length_singleton, ← hd0]
    rw [← hP, ← hd0] at hpa
    rw [← hY] at hro
    clear hP hd0 hY ih hr hl
    obtain ⟨A2, hA2⟩ : ∃ A2, A2 = (if c = halfN n then A else A.map (·.add (halfN n))) := ⟨_, rfl⟩
    obtain ⟨m, hm⟩ : ∃ m, m = n - halfN n := ⟨_, rfl⟩
    obtain ⟨c2, hc2⟩ : ∃ c2, c2 = c - halfN n := ⟨_, rfl⟩
    rw [← hA2, ← hm, ← hc2] at hro hlo
    clear hA2 hm hc2
    have hik2 : (i : Int) < (halfN n : Int) := by omega
    generalize halfN n = k at hls hk1 hk2 hpa hlo hik hik2
    have hkc : k ≤ c := by omega
    go_enter Tryd.func16, Tryd.ntmps16
    go_upto_region 5 with (go_at_call 36; refine (hls _).mono ?_; rintro e w5 ⟨rfl, h5w⟩; obtain rfl : w0 = w5 := h5w.symm)
    refine wp_region_gb (al := plAl) 12 (N := 49) (S := plS) (die := plDie) (own := plOwn) (F := plF A A2 n k m c c2 i d P Y) (by kernel_rfl) (Nat.le_of_ble_eq_true (by kernel_rfl)) (fun h => absurd (show 12 < 12 from h) (Nat.lt_irrefl _)) (fun h => absurd (show 12 < 12 from h) (Nat.lt_irrefl _)) (by kernel_rfl) (by kernel_rfl) (Nat.le_of_ble_eq_true (by kernel_rfl)) (plF_lasts A A2 n k m c c2 i d P Y) ?_ ?_
    · intro i o L' a w K hi ho hg hLi hout hpre houter hitem h1 h2 h3
      have hcases : i = 0 ∨ i = 1 ∨ i = 2 ∨ i = 3 ∨ i = 4 ∨ i = 5 ∨ i = 6 ∨ i = 7 ∨ i = 8 ∨ i = 9 ∨ i = 10 ∨ i = 11 := by omega
      rcases hcases with rfl | rfl | rfl | rfl | rfl | rfl | rfl | rfl | rfl | rfl | rfl | rfl
      · cases (show some _ = some o from ho)
        exact ⟨rfl, wp_move rfl (h1 ⟨_, rfl⟩ _ _ (grown_refl _ none) (houter _ rfl) (by rw [houter _ rfl]; exact nobl rfl) (by rw [houter _ rfl]; exact FreshB.none rfl))⟩
      · cases (show some _ = some o from ho)
        exact ⟨rfl, wp_move rfl (h1 ⟨_, rfl⟩ _ _ (grown_refl _ none) (houter _ rfl) (by rw [houter _ rfl]; exact nobl rfl) (by rw [houter _ rfl]; exact FreshB.none rfl))⟩
      · cases (show some _ = some o from ho)
        exact ⟨rfl, wp_slice_hi rfl (hitem 0 (by decide) ⟨hpre 0 rfl, hout _ (by decide)⟩) (hitem 1 (by decide) ⟨hpre 1 rfl, hout _ (by decide)⟩) (sl_hiP A n c k hkc _) (h1 ⟨_, rfl⟩ _ _ (grown_refl _ none) rfl (nobl rfl) (FreshB.none rfl))⟩
      · cases (show some _ = some o from ho)
        exact ⟨rfl, wp_move rfl (h1 ⟨_, rfl⟩ _ _ (grown_refl _ none) (houter _ rfl) (by rw [houter _ rfl]; exact nobl rfl) (by rw [houter _ rfl]; exact FreshB.none rfl))⟩
      · cases (show some _ = some o from ho)
        have x27 : a.eval (.tmp 27) = .slice A k c := hitem 2 (by decide) ⟨hpre 2 rfl, hout _ (by decide)⟩
        have x28 : a.eval (.tmp 28) = .int .i64 (i : Int) := hitem 3 (by decide) ⟨hpre 3 rfl, hout _ (by decide)⟩
        refine ⟨rfl, wp_call rfl Tryd.func16 (by kernel_rfl) (by kernel_rfl) (args := #[.slice A k c, .int .i64 (i : Int)]) (by simp [x27, x28]) ((hpa w hg).mono ?_)⟩
        rintro e w' ⟨v, rfl, hf', hg', hn', ht'⟩
        exact ⟨_, rfl, h1 ⟨_, rfl⟩ _ _ hg' hf' ht' (FreshB.new hn')⟩
      · cases (show some _ = some o from ho)
        exact ⟨rfl, wp_move rfl (h1 ⟨_, rfl⟩ _ _ (grown_refl _ none) (houter _ rfl) (by rw [houter _ rfl]; exact nobl rfl) (by rw [houter _ rfl]; exact FreshB.none rfl))⟩
      · cases (show some _ = some o from ho)
        exact ⟨rfl, wp_move rfl (h1 ⟨_, rfl⟩ _ _ (grown_refl _ none) (houter _ rfl) (by rw [houter _ rfl]; exact nobl rfl) (by rw [houter _ rfl]; exact FreshB.none rfl))⟩
      · cases (show some _ = some o from ho)
        exact ⟨rfl, wp_slice_lo rfl (hitem 5 (by decide) ⟨hpre 5 rfl, hout _ (by decide)⟩) (hitem 6 (by decide) ⟨hpre 6 rfl, hout _ (by decide)⟩) (hlo _) (h1 ⟨_, rfl⟩ _ _ (grown_refl _ none) rfl (nobl rfl) (FreshB.none rfl))⟩
      · cases (show some _ = some o from ho)
        have x32 : a.eval (.tmp 32) = .slice A2 m c2 := hitem 7 (by decide) ⟨hpre 7 rfl, hout _ (by decide)⟩
        refine ⟨rfl, wp_call rfl Tryd.func19 (by kernel_rfl) (by kernel_rfl) (args := #[.slice A2 m c2]) (by simp [x32]) ((hro w hg).mono ?_)⟩
        rintro e w' ⟨rfl, hg'⟩
        exact ⟨_, rfl, h1 ⟨_, rfl⟩ _ _ hg' rfl (nobl (blocks_bytes _)) (FreshB.none (blocks_bytes _))⟩
      · cases (show some _ = some o from ho)
        exact ⟨rfl, wp_lit1 rfl (hitem 8 (by decide) ⟨hpre 8 rfl, hout _ (by decide)⟩) (lit_1h Y hYl.out _) (h1 ⟨_, rfl⟩ _ _ (grown_alloc (grown_refl _ _) _) ⟨_, rfl, rd_row (heap_alloc_new _ _)⟩ (new_lt _ _) (FreshB.new (new_ge _)))⟩
      · cases (show some _ = some o from ho)
        have hu := hitem 4 (by decide) ⟨hpre 4 rfl, hLi⟩
        obtain ⟨b, e1, hb⟩ := hitem 9 (by decide) ⟨hpre 9 rfl, hout _ (by decide)⟩
        exact ⟨rfl, wp_appH rfl rfl hu e1 hb (by rw [hYl.out]) (by omega) (by have := hd.out; omega) fun v w' hv hw => h2 ⟨_, rfl⟩ 4 v w' _ (by decide) ⟨hpre 4 rfl, hLi⟩ rfl rfl hw.1 (ownH_mem hu) hv (ownH_lt hv) (grewH_blocks hu hv hw)⟩
      · cases (show some _ = some o from ho)
        have hu := hitem 10 (by decide) ⟨hpre 10 rfl, hLi⟩
        exact ⟨rfl, wp_assign rfl (h2 ⟨_, rfl⟩ 10 _ _ none (by decide) ⟨hpre 10 rfl, hLi⟩ rfl rfl (grown_refl _ none) (fun g e => by cases e) hu (ownH_lt hu) (fun g e => .inr (.inl e)))⟩
    · intro a wT hgT hend hap ha
      obtain ⟨f, hf⟩ : ∃ f : Nat → Value, f = fun t => a.tmps.getD t undef := ⟨_, rfl⟩
      obtain ⟨v4, s4, ho4, hn4⟩ : ∃ v, f 4 = v ∧ OwnHs wT v (P ++ Y) (d + 1) ∧ ∀ g ∈ blocksOf v, w0.heap.size ≤ g := ⟨_, congrFun hf 4, (hend 11 (by decide) (by decide)).1, (hend 11 (by decide) (by decide)).2 rfl⟩
      rw [← hf] at ha
      clear hend hap
      clear hf
      subst ha
      simp only [fill, plS, Nat.reduceAdd, Nat.reduceBEq, Bool.or_false, Bool.or_true, cond_true, cond_false, List.drop_succ_cons, List.drop_zero, s4]
      clear s4
      go_wp2_with fail
      go_ret
      rw [HP.out, HD.out]
      exact ⟨v4, rfl, ho4, hgT, hn4, ownH_lt ho4⟩
  · have hpa := fun w' (hg : w0.grownBy w' none) => ih (n - halfN n) (by omega) (if c = halfN n then A else A.map (·.add (halfN n))) (ps.drop (halfN n)) (c - halfN n) (i - halfN n) w' (by rw [List.length_drop]; omega) (by omega) (by omega) (by omega) (fun p hp => hl p (List.mem_of_mem_drop hp)) (hk.kept hg) ((hr.cut (by omega)).kept hg)
    have hro := fun w' (hg : w0.grownBy w' none) => Root_any (halfN n) A (ps.take (halfN n)) c w' (by rw [List.length_take]; omega) (by omega) (by omega) (fun p hp => hl p (List.mem_of_mem_take hp)) (hk.kept hg) ((hr.take _).kept hg)
    obtain ⟨P, hP⟩ : ∃ P, P = (pathL (leavesOf (ps.drop (halfN n))) (i - halfN n)).flatten := ⟨_, rfl⟩
    obtain ⟨d, hd0⟩ : ∃ d, d = (pathL (leavesOf (ps.drop (halfN n))) (i - halfN n)).length := ⟨_, rfl⟩
    obtain ⟨Y, hY⟩ : ∃ Y, Y = rootL (leavesOf (ps.take (halfN n))) := ⟨_, rfl⟩
    have hYl : Hid (Y.length = 32) := by rw [hY]; exact rootL_len _
    have hd : Hid (d ≤ 1000) := by
      show d ≤ 1000
      have := pathL_le (leavesOf (ps.drop (halfN n))) (i - halfN n)
      rw [leavesOf_len, List.length_drop] at this
      omega
    have HP : Hid ((pathL (leavesOf ps) i).flatten = P ++ Y) := by
      show _ = _
      rw [pathL_r (by rw [leavesOf_len]; omega) (by rw [leavesOf_len]; omega) (by rw [leavesOf_len, hn]; exact hik), leavesOf_len, hn, ← leavesOf_take, ← leavesOf_drop, List.flatten_append, List.flatten_singleton, ← hP, ← hY]
    have HD : Hid ((pathL (leavesOf ps) i).length = d + 1) := by
      show _ = _
      rw [pathL_r (by rw [leavesOf_len]; omega) (by rw [leavesOf_len]; omega) (by rw [leavesOf_len, hn]; exact hik), leavesOf_len, hn, ← leavesOf_take, ← leavesOf_drop, List.length_append, List.length_singleton, ← hd0]
    rw [← hP, ← hd0] at hpa
    rw [← hY] at hro
    clear hP hd0 hY ih hr hl
    obtain ⟨A2, hA2⟩ : ∃ A2, A2 = (if c = halfN n then A else A.map (·.add (halfN n))) := ⟨_, rfl⟩
    obtain ⟨m, hm⟩ : ∃ m, m = n - halfN n := ⟨_, rfl⟩
    obtain ⟨c2, hc2⟩ : ∃ c2, c2 = c - halfN n := ⟨_, rfl⟩
    have hsub := fun w' => sub_nat i (halfN n) (by omega) (by omega) w'
    obtain ⟨i2, hi2⟩ : ∃ i2, i2 = i - halfN n := ⟨_, rfl⟩
    rw [← hA2, ← hm, ← hc2, ← hi2] at hpa
    rw [← hA2, ← hm, ← hc2] at hlo
    rw [← hi2] at hsub
    clear hi2
    clear hA2 hm hc2
    have hik2 : ¬ (i : Int) < (halfN n : Int) := by omega
    generalize halfN n = k at hls hk1 hk2 hro hsub hlo hik hik2
    have hkc : k ≤ c := by omega
    go_enter Tryd.func16, Tryd.ntmps16
    go_upto_region 6 with (go_at_call 36; refine (hls _).mono ?_; rintro e w5 ⟨rfl, h5w⟩; obtain rfl : w0 = w5 := h5w.symm)
    refine wp_region_gb (al := prAl) 14 (N := 49) (S := prS) (die := prDie) (own := prOwn) (F := prF A A2 n k m c c2 i i2 d P Y) (by kernel_rfl) (Nat.le_of_ble_eq_true (by kernel_rfl)) (fun h => absurd (show 14 < 14 from h) (Nat.lt_irrefl _)) (fun h => absurd (show 14 < 14 from h) (Nat.lt_irrefl _)) (by kernel_rfl) (by kernel_rfl) (Nat.le_of_ble_eq_true (by kernel_rfl)) (prF_lasts A A2 n k m c c2 i i2 d P Y) ?_ ?_
    · intro i o L' a w K hi ho hg hLi hout hpre houter hitem h1 h2 h3
      have hcases : i = 0 ∨ i = 1 ∨ i = 2 ∨ i = 3 ∨ i = 4 ∨ i = 5 ∨ i = 6 ∨ i = 7 ∨ i = 8 ∨ i = 9 ∨ i = 10 ∨ i = 11 ∨ i = 12 ∨ i = 13 := by omega
      rcases hcases with rfl | rfl | rfl | rfl | rfl | rfl | rfl | rfl | rfl | rfl | rfl | rfl | rfl | rfl
      · cases (show some _ = some o from ho)
        exact ⟨rfl, wp_move rfl (h1 ⟨_, rfl⟩ _ _ (grown_refl _ none) (houter _ rfl) (by rw [houter _ rfl]; exact nobl rfl) (by rw [houter _ rfl]; exact FreshB.none rfl))⟩
      · cases (show some _ = some o from ho)
        exact ⟨rfl, wp_move rfl (h1 ⟨_, rfl⟩ _ _ (grown_refl _ none) (houter _ rfl) (by rw [houter _ rfl]; exact nobl rfl) (by rw [houter _ rfl]; exact FreshB.none rfl))⟩
      · cases (show some _ = some o from ho)
        exact ⟨rfl, wp_slice_lo rfl (hitem 0 (by decide) ⟨hpre 0 rfl, hout _ (by decide)⟩) (hitem 1 (by decide) ⟨hpre 1 rfl, hout _ (by decide)⟩) (hlo _) (h1 ⟨_, rfl⟩ _ _ (grown_refl _ none) rfl (nobl rfl) (FreshB.none rfl))⟩
      · cases (show some _ = some o from ho)
        exact ⟨rfl, wp_move rfl (h1 ⟨_, rfl⟩ _ _ (grown_refl _ none) (houter _ rfl) (by rw [houter _ rfl]; exact nobl rfl) (by rw [houter _ rfl]; exact FreshB.none rfl))⟩
      · cases (show some _ = some o from ho)
        exact ⟨rfl, wp_move rfl (h1 ⟨_, rfl⟩ _ _ (grown_refl _ none) (houter _ rfl) (by rw [houter _ rfl]; exact nobl rfl) (by rw [houter _ rfl]; exact FreshB.none rfl))⟩
      · cases (show some _ = some o from ho)
        exact ⟨rfl, wp_bin rfl (hitem 3 (by decide) ⟨hpre 3 rfl, hout _ (by decide)⟩) (hitem 4 (by decide) ⟨hpre 4 rfl, hout _ (by decide)⟩) (guard_subI _ _ _ _ _) (hsub _) (h1 ⟨_, rfl⟩ _ _ (grown_refl _ none) rfl (nobl rfl) (FreshB.none rfl))⟩
      · cases (show some _ = some o from ho)
        have x38 : a.eval (.tmp 38) = .slice A2 m c2 := hitem 2 (by decide) ⟨hpre 2 rfl, hout _ (by decide)⟩
        have x41 : a.eval (.tmp 41) = .int .i64 (i2 : Int) := hitem 5 (by decide) ⟨hpre 5 rfl, hout _ (by decide)⟩
        refine ⟨rfl, wp_call rfl Tryd.func16 (by kernel_rfl) (by kernel_rfl) (args := #[.slice A2 m c2, .int .i64 (i2 : Int)]) (by simp [x38, x41]) ((hpa w hg).mono ?_)⟩
        rintro e w' ⟨v, rfl, hf', hg', hn', ht'⟩
        exact ⟨_, rfl, h1 ⟨_, rfl⟩ _ _ hg' hf' ht' (FreshB.new hn')⟩
      · cases (show some _ = some o from ho)
        exact ⟨rfl, wp_move rfl (h1 ⟨_, rfl⟩ _ _ (grown_refl _ none) (houter _ rfl) (by rw [houter _ rfl]; exact nobl rfl) (by rw [houter _ rfl]; exact FreshB.none rfl))⟩
      · cases (show some _ = some o from ho)
        exact ⟨rfl, wp_move rfl (h1 ⟨_, rfl⟩ _ _ (grown_refl _ none) (houter _ rfl) (by rw [houter _ rfl]; exact nobl rfl) (by rw [houter _ rfl]; exact FreshB.none rfl))⟩
      · cases (show some _ = some o from ho)
        exact ⟨rfl, wp_slice_hi rfl (hitem 7 (by decide) ⟨hpre 7 rfl, hout _ (by decide)⟩) (hitem 8 (by decide) ⟨hpre 8 rfl, hout _ (by decide)⟩) (sl_hiP A n c k hkc _) (h1 ⟨_, rfl⟩ _ _ (grown_refl _ none) rfl (nobl rfl) (FreshB.none rfl))⟩
      · cases (show some _ = some o from ho)
        have x45 : a.eval (.tmp 45) = .slice A k c := hitem 9 (by decide) ⟨hpre 9 rfl, hout _ (by decide)⟩
        refine ⟨rfl, wp_call rfl Tryd.func19 (by kernel_rfl) (by kernel_rfl) (args := #[.slice A k c]) (by simp [x45]) ((hro w hg).mono ?_)⟩
        rintro e w' ⟨rfl, hg'⟩
        exact ⟨_, rfl, h1 ⟨_, rfl⟩ _ _ hg' rfl (nobl (blocks_bytes _)) (FreshB.none (blocks_bytes _))⟩
      · cases (show some _ = some o from ho)
        exact ⟨rfl, wp_lit1 rfl (hitem 10 (by decide) ⟨hpre 10 rfl, hout _ (by decide)⟩) (lit_1h Y hYl.out _) (h1 ⟨_, rfl⟩ _ _ (grown_alloc (grown_refl _ _) _) ⟨_, rfl, rd_row (heap_alloc_new _ _)⟩ (new_lt _ _) (FreshB.new (new_ge _)))⟩
      · cases (show some _ = some o from ho)
        have hu := hitem 6 (by decide) ⟨hpre 6 rfl, hLi⟩
        obtain ⟨b, e1, hb⟩ := hitem 11 (by decide) ⟨hpre 11 rfl, hout _ (by decide)⟩
        exact ⟨rfl, wp_appH rfl rfl hu e1 hb (by rw [hYl.out]) (by omega) (by have := hd.out; omega) fun v w' hv hw => h2 ⟨_, rfl⟩ 6 v w' _ (by decide) ⟨hpre 6 rfl, hLi⟩ rfl rfl hw.1 (ownH_mem hu) hv (ownH_lt hv) (grewH_blocks hu hv hw)⟩
      · cases (show some _ = some o from ho)
        have hu := hitem 12 (by decide) ⟨hpre 12 rfl, hLi⟩
        exact ⟨rfl, wp_assign rfl (h2 ⟨_, rfl⟩ 12 _ _ none (by decide) ⟨hpre 12 rfl, hLi⟩ rfl rfl (grown_refl _ none) (fun g e => by cases e) hu (ownH_lt hu) (fun g e => .inr (.inl e)))⟩
    · intro a wT hgT hend hap ha
      obtain ⟨f, hf⟩ : ∃ f : Nat → Value, f = fun t => a.tmps.getD t undef := ⟨_, rfl⟩
      obtain ⟨v4, s4, ho4, hn4⟩ : ∃ v, f 4 = v ∧ OwnHs wT v (P ++ Y) (d + 1) ∧ ∀ g ∈ blocksOf v, w0.heap.size ≤ g := ⟨_, congrFun hf 4, (hend 13 (by decide) (by decide)).1, (hend 13 (by decide) (by decide)).2 rfl⟩
      rw [← hf] at ha
      clear hend hap
      clear hf
      subst ha
      simp only [fill, prS, Nat.reduceAdd, Nat.reduceBEq, Bool.or_false, Bool.or_true, cond_true, cond_false, List.drop_succ_cons, List.drop_zero, s4]
      clear s4
      go_wp2_with fail
      go_ret
      rw [HP.out, HD.out]
      exact ⟨v4, rfl, ho4, hgT, hn4, ownH_lt ho4⟩

set_option maxRecDepth 100000 in
theorem RPath_neg (n : Nat) (A : Option Addr) (c : Nat) (i : Int) (hi : i < 0) (w0 : World) :
    Calls Tryd.prog 22 #[.slice A n c, .int .i64 i] w0 fun e w' => PathAt w0 [] 0 e w' := by
  go_enter Tryd.func22, Tryd.ntmps22
  go_wp2_with fail
  go_ret
  exact PathAt.nil _ _ (grown_refl _ _)
def rlS (t : Nat) : Bool := t == 4 || t == 25 || t == 26 || t == 27 || t == 28 || t == 29 || t == 30 || t == 31 || t == 32 || t == 33 || t == 34 || t == 35
def rlDie (k : Nat) : Nat := if k = 4 then 10 else if k = 10 then 11 else 99
def rlOwn (k : Nat) : Bool := k == 4 || k == 10 || k == 11
def rlAl (k : Nat) : Bool := k == 0 || k == 2 || k == 5 || k == 7
def rlF (A A2 : Option Addr) (n k m c c2 i d : Nat) (P Y : List UInt8) : Nat → Value → World → Prop
  | 0 => fun v _ => v = .slice A n c
  | 1 => fun v _ => v = .int .i64 (k : Int)
  | 2 => fun v _ => v = .slice A k c
  | 3 => fun v _ => v = .int .i64 (i : Int)
  | 4 => fun v w => OwnHs w v P d
  | 5 => fun v _ => v = .slice A n c
  | 6 => fun v _ => v = .int .i64 (k : Int)
  | 7 => fun v _ => v = .slice A2 m c2
  | 8 => fun v _ => v = (.agg (Y.map bv).toArray)
  | 9 => Hash1 Y
  | 10 => fun v w => OwnHs w v (P ++ Y) (d + 1)
  | 11 => fun v w => OwnHs w v (P ++ Y) (d + 1)
  | _ => fun _ _ => True
theorem rlF_lasts (A A2 : Option Addr) (n k m c c2 i d : Nat) (P Y : List UInt8) : ∀ kq, LastsB rlAl kq (rlF A A2 n k m c c2 i d P Y kq)
  | 0 => LastsB.val _
  | 1 => LastsB.val _
  | 2 => LastsB.val _
  | 3 => LastsB.val _
  | 4 => LastsB.ownH rfl _ _
  | 5 => LastsB.val _
  | 6 => LastsB.val _
  | 7 => LastsB.val _
  | 8 => LastsB.val _
  | 9 => LastsB.hash1 rfl _
  | 10 => LastsB.ownH rfl _ _
  | 11 => LastsB.ownH rfl _ _
  | _ + 12 => fun _ _ _ _ _ _ _ => trivial
def rrS (t : Nat) : Bool := t == 4 || t == 36 || t == 37 || t == 38 || t == 39 || t == 40 || t == 41 || t == 42 || t == 43 || t == 44 || t == 45 || t == 46 || t == 47 || t == 48
def rrDie (k : Nat) : Nat := if k = 6 then 12 else if k = 12 then 13 else 99
def rrOwn (k : Nat) : Bool := k == 6 || k == 12 || k == 13
def rrAl (k : Nat) : Bool := k == 0 || k == 2 || k == 7 || k == 9
def rrF (A A2 : Option Addr) (n k m c c2 i i2 d : Nat) (P Y : List UInt8) : Nat → Value → World → Prop
  | 0 => fun v _ => v = .slice A n c
  | 1 => fun v _ => v = .int .i64 (k : Int)
  | 2 => fun v _ => v = .slice A2 m c2
  | 3 => fun v _ => v = .int .i64 (i : Int)
  | 4 => fun v _ => v = .int .i64 (k : Int)
  | 5 => fun v _ => v = .int .i64 (i2 : Int)
  | 6 => fun v w => OwnHs w v P d
  | 7 => fun v _ => v = .slice A n c
  | 8 => fun v _ => v = .int .i64 (k : Int)
  | 9 => fun v _ => v = .slice A k c
  | 10 => fun v _ => v = (.agg (Y.map bv).toArray)
  | 11 => Hash1 Y
  | 12 => fun v w => OwnHs w v (P ++ Y) (d + 1)
  | 13 => fun v w => OwnHs w v (P ++ Y) (d + 1)
  | _ => fun _ _ => True
theorem rrF_lasts (A A2 : Option Addr) (n k m c c2 i i2 d : Nat) (P Y : List UInt8) : ∀ kq, LastsB rrAl kq (rrF A A2 n k m c c2 i i2 d P Y kq)
  | 0 => LastsB.val _
  | 1 => LastsB.val _
  | 2 => LastsB.val _
  | 3 => LastsB.val _
  | 4 => LastsB.val _
  | 5 => LastsB.val _
  | 6 => LastsB.ownH rfl _ _
  | 7 => LastsB.val _
  | 8 => LastsB.val _
  | 9 => LastsB.val _
  | 10 => LastsB.val _
  | 11 => LastsB.hash1 rfl _
  | 12 => LastsB.ownH rfl _ _
  | 13 => LastsB.ownH rfl _ _
  | _ + 14 => fun _ _ _ _ _ _ _ => trivial

set_option maxRecDepth 100000 in
set_option maxHeartbeats 2000000 in
theorem RPath_any : ∀ (n : Nat) (A : Option Addr) (ps : List Part) (c i : Nat) (w0 : World), ps.length = n → n ≤ c → n ≤ 500 → i ≤ 1000 → (∀ p ∈ ps, p.2.1.length ≤ 1000) → RdP w0 A ps →
    Calls Tryd.prog 22 #[.slice A n c, .int .i64 (i : Int)] w0 fun e w' => PathAt w0 (pathL (leavesOf ps) i).flatten (pathL (leavesOf ps) i).length e w' := by
  intro n
  induction n using Nat.strongRecOn with
  | ind n ih =>
  intro A ps c i w0 hn hc h5 hi hl hr
  have i0 : ¬ (i : Int) < 0 := by omega
  by_cases h0 : n ≤ i
  · have i1 : (n : Int) ≤ (i : Int) := by omega
    rw [pathL_0 (.inr (by rw [leavesOf_len]; omega))]
    go_enter Tryd.func22, Tryd.ntmps22
    go_wp2_with fail
    go_ret
    exact PathAt.nil _ _ (grown_refl _ _)
  have i1 : ¬ (n : Int) ≤ (i : Int) := by omega
  by_cases h1 : n = 1
  · subst h1
    rw [pathL_0 (.inl (by rw [leavesOf_len]; omega))]
    go_enter Tryd.func22, Tryd.ntmps22
    go_wp2_with fail
    go_ret
    exact PathAt.nil _ _ (grown_refl _ _)
  have h2 : 2 ≤ n := by omega
  have n1 : ¬ (n : Int) = 1 := by omega
  have hls := fun w' => half_any n (by omega) (by omega) w'
  have hk1 := halfN_pos n
  have hk2 := halfN_lt h2
  have hlo := fun w' => sl_loP A n c (halfN n) (by omega) w'
  by_cases hik : i < halfN n
  · have hpa := fun w' (hg : w0.grownBy w' none) => ih (halfN n) hk2 A (ps.take (halfN n)) c i w' (by rw [List.length_take]; omega) (by omega) (by omega) hi (fun p hp => hl p (List.mem_of_mem_take hp)) ((hr.take _).kept hg)
    have hro := fun w' (hg : w0.grownBy w' none) => RRoot_any (n - halfN n) (if c = halfN n then A else A.map (·.add (halfN n))) (ps.drop (halfN n)) (c - halfN n) w' (by rw [List.length_drop]; omega) (by omega) (by omega) (fun p hp => hl p (List.mem_of_mem_drop hp)) ((hr.cut (by omega)).kept hg)
    obtain ⟨P, hP⟩ : ∃ P, P = (pathL (leavesOf (ps.take (halfN n))) i).flatten := ⟨_, rfl⟩
    obtain ⟨d, hd0⟩ : ∃ d, d = (pathL (leavesOf (ps.take (halfN n))) i).length := ⟨_, rfl⟩
    obtain ⟨Y, hY⟩ : ∃ Y, Y = rootL (leavesOf (ps.drop (halfN n))) := ⟨_, rfl⟩
    have hYl : Hid (Y.length = 32) := by rw [hY]; exact rootL_len _
    have hd : Hid (d ≤ 1000) := by
      show d ≤ 1000
      have := pathL_le (leavesOf (ps.take (halfN n))) i
      rw [leavesOf_len, List.length_take] at this
      omega
    have HP : Hid ((pathL (leavesOf ps) i).flatten = P ++ Y) := by
      show _ = _
      rw [pathL_l (by rw [leavesOf_len]; omega) (by rw [leavesOf_len, hn]; exact hik), leavesOf_len, hn, ← leavesOf_take, ← leavesOf_drop, List.flatten_append, List.flatten_singleton, ← hP, ← hY]
    have HD : Hid ((pathL (leavesOf ps) i).length = d + 1) := by
      show _ = _
      rw [pathL_l (by rw [leavesOf_len]; omega) (by rw [leavesOf_len, hn]; exact hik), leavesOf_len, hn, ← leavesOf_take, ← leavesOf_drop, List.length_append, List.length_singleton, ← hd0]
    rw [← hP, ← hd0] at hpa
    rw [← hY] at hro
    clear hP hd0 hY ih hr hl
    obtain ⟨A2, hA2⟩ : ∃ A2, A2 = (if c = halfN n then A else A.map (·.add (halfN n))) := ⟨_, rfl⟩
    obtain ⟨m, hm⟩ : ∃ m, m = n - halfN n := ⟨_, rfl⟩
    obtain ⟨c2, hc2⟩ : ∃ c2, c2 = c - halfN n := ⟨_, rfl⟩
    rw [← hA2, ← hm, ← hc2] at hro hlo
    clear hA2 hm hc2
    have hik2 : (i : Int) < (halfN n : Int) := by omega
    generalize halfN n = k at hls hk1 hk2 hpa hlo hik hik2
    have hkc : k ≤ c := by omega
    go_enter Tryd.func22, Tryd.ntmps22
    go_upto_region 5 with (go_at_call 41; refine (hls _).mono ?_; rintro e w5 ⟨rfl, h5w⟩; obtain rfl : w0 = w5 := h5w.symm)
    refine wp_region_gb (al := rlAl) 12 (N := 49) (S := rlS) (die := rlDie) (own := rlOwn) (F := rlF A A2 n k m c c2 i d P Y) (by kernel_rfl) (Nat.le_of_ble_eq_true (by kernel_rfl)) (fun h => absurd (show 12 < 12 from h) (Nat.lt_irrefl _)) (fun h => absurd (show 12 < 12 from h) (Nat.lt_irrefl _)) (by kernel_rfl) (by kernel_rfl) (Nat.le_of_ble_eq_true (by kernel_rfl)) (rlF_lasts A A2 n k m c c2 i d P Y) ?_ ?_
    · intro i o L' a w K hi ho hg hLi hout hpre houter hitem h1 h2 h3
      have hcases : i = 0 ∨ i = 1 ∨ i = 2 ∨ i = 3 ∨ i = 4 ∨ i = 5 ∨ i = 6 ∨ i = 7 ∨ i = 8 ∨ i = 9 ∨ i = 10 ∨ i = 11 := by omega
      rcases hcases with rfl | rfl | rfl | rfl | rfl | rfl | rfl | rfl | rfl | rfl | rfl | rfl
      · cases (show some _ = some o from ho)
        exact ⟨rfl, wp_move rfl (h1 ⟨_, rfl⟩ _ _ (grown_refl _ none) (houter _ rfl) (by rw [houter _ rfl]; exact nobl rfl) (by rw [houter _ rfl]; exact FreshB.none rfl))⟩
      · cases (show some _ = some o from ho)
        exact ⟨rfl, wp_move rfl (h1 ⟨_, rfl⟩ _ _ (grown_refl _ none) (houter _ rfl) (by rw [houter _ rfl]; exact nobl rfl) (by rw [houter _ rfl]; exact FreshB.none rfl))⟩
      · cases (show some _ = some o from ho)
        exact ⟨rfl, wp_slice_hi rfl (hitem 0 (by decide) ⟨hpre 0 rfl, hout _ (by decide)⟩) (hitem 1 (by decide) ⟨hpre 1 rfl, hout _ (by decide)⟩) (sl_hiP A n c k hkc _) (h1 ⟨_, rfl⟩ _ _ (grown_refl _ none) rfl (nobl rfl) (FreshB.none rfl))⟩
      · cases (show some _ = some o from ho)
        exact ⟨rfl, wp_move rfl (h1 ⟨_, rfl⟩ _ _ (grown_refl _ none) (houter _ rfl) (by rw [houter _ rfl]; exact nobl rfl) (by rw [houter _ rfl]; exact FreshB.none rfl))⟩
      · cases (show some _ = some o from ho)
        have x27 : a.eval (.tmp 27) = .slice A k c := hitem 2 (by decide) ⟨hpre 2 rfl, hout _ (by decide)⟩
        have x28 : a.eval (.tmp 28) = .int .i64 (i : Int) := hitem 3 (by decide) ⟨hpre 3 rfl, hout _ (by decide)⟩
        refine ⟨rfl, wp_call rfl Tryd.func22 (by kernel_rfl) (by kernel_rfl) (args := #[.slice A k c, .int .i64 (i : Int)]) (by simp [x27, x28]) ((hpa w hg).mono ?_)⟩
        rintro e w' ⟨v, rfl, hf', hg', hn', ht'⟩
        exact ⟨_, rfl, h1 ⟨_, rfl⟩ _ _ hg' hf' ht' (FreshB.new hn')⟩
      · cases (show some _ = some o from ho)
        exact ⟨rfl, wp_move rfl (h1 ⟨_, rfl⟩ _ _ (grown_refl _ none) (houter _ rfl) (by rw [houter _ rfl]; exact nobl rfl) (by rw [houter _ rfl]; exact FreshB.none rfl))⟩
      · cases (show some _ = some o from ho)
        exact ⟨rfl, wp_move rfl (h1 ⟨_, rfl⟩ _ _ (grown_refl _ none) (houter _ rfl) (by rw [houter _ rfl]; exact nobl rfl) (by rw [houter _ rfl]; exact FreshB.none rfl))⟩
      · cases (show some _ = some o from ho)
        exact ⟨rfl, wp_slice_lo rfl (hitem 5 (by decide) ⟨hpre 5 rfl, hout _ (by decide)⟩) (hitem 6 (by decide) ⟨hpre 6 rfl, hout _ (by decide)⟩) (hlo _) (h1 ⟨_, rfl⟩ _ _ (grown_refl _ none) rfl (nobl rfl) (FreshB.none rfl))⟩
      · cases (show some _ = some o from ho)
        have x32 : a.eval (.tmp 32) = .slice A2 m c2 := hitem 7 (by decide) ⟨hpre 7 rfl, hout _ (by decide)⟩
        refine ⟨rfl, wp_call rfl Tryd.func24 (by kernel_rfl) (by kernel_rfl) (args := #[.slice A2 m c2]) (by simp [x32]) ((hro w hg).mono ?_)⟩
        rintro e w' ⟨rfl, hg'⟩
        exact ⟨_, rfl, h1 ⟨_, rfl⟩ _ _ hg' rfl (nobl (blocks_bytes _)) (FreshB.none (blocks_bytes _))⟩
      · cases (show some _ = some o from ho)
        exact ⟨rfl, wp_lit1 rfl (hitem 8 (by decide) ⟨hpre 8 rfl, hout _ (by decide)⟩) (lit_1h Y hYl.out _) (h1 ⟨_, rfl⟩ _ _ (grown_alloc (grown_refl _ _) _) ⟨_, rfl, rd_row (heap_alloc_new _ _)⟩ (new_lt _ _) (FreshB.new (new_ge _)))⟩
      · cases (show some _ = some o from ho)
        have hu := hitem 4 (by decide) ⟨hpre 4 rfl, hLi⟩
        obtain ⟨b, e1, hb⟩ := hitem 9 (by decide) ⟨hpre 9 rfl, hout _ (by decide)⟩
        exact ⟨rfl, wp_appH rfl rfl hu e1 hb (by rw [hYl.out]) (by omega) (by have := hd.out; omega) fun v w' hv hw => h2 ⟨_, rfl⟩ 4 v w' _ (by decide) ⟨hpre 4 rfl, hLi⟩ rfl rfl hw.1 (ownH_mem hu) hv (ownH_lt hv) (grewH_blocks hu hv hw)⟩
      · cases (show some _ = some o from ho)
        have hu := hitem 10 (by decide) ⟨hpre 10 rfl, hLi⟩
        exact ⟨rfl, wp_assign rfl (h2 ⟨_, rfl⟩ 10 _ _ none (by decide) ⟨hpre 10 rfl, hLi⟩ rfl rfl (grown_refl _ none) (fun g e => by cases e) hu (ownH_lt hu) (fun g e => .inr (.inl e)))⟩
    · intro a wT hgT hend hap ha
      obtain ⟨f, hf⟩ : ∃ f : Nat → Value, f = fun t => a.tmps.getD t undef := ⟨_, rfl⟩
      obtain ⟨v4, s4, ho4, hn4⟩ : ∃ v, f 4 = v ∧ OwnHs wT v (P ++ Y) (d + 1) ∧ ∀ g ∈ blocksOf v, w0.heap.size ≤ g := ⟨_, congrFun hf 4, (hend 11 (by decide) (by decide)).1, (hend 11 (by decide) (by decide)).2 rfl⟩
      rw [← hf] at ha
      clear hend hap
      clear hf
      subst ha
      simp only [fill, rlS, Nat.reduceAdd, Nat.reduceBEq, Bool.or_false, Bool.or_true, cond_true, cond_false, List.drop_succ_cons, List.drop_zero, s4]
      clear s4
      go_wp2_with fail
      go_ret
      rw [HP.out, HD.out]
      exact ⟨v4, rfl, ho4, hgT, hn4, ownH_lt ho4⟩
  · have hpa := fun w' (hg : w0.grownBy w' none) => ih (n - halfN n) (by omega) (if c = halfN n then A else A.map (·.add (halfN n))) (ps.drop (halfN n)) (c - halfN n) (i - halfN n) w' (by rw [List.length_drop]; omega) (by omega) (by omega) (by omega) (fun p hp => hl p (List.mem_of_mem_drop hp)) ((hr.cut (by omega)).kept hg)
    have hro := fun w' (hg : w0.grownBy w' none) => RRoot_any (halfN n) A (ps.take (halfN n)) c w' (by rw [List.length_take]; omega) (by omega) (by omega) (fun p hp => hl p (List.mem_of_mem_take hp)) ((hr.take _).kept hg)
    obtain ⟨P, hP⟩ : ∃ P, P = (pathL (leavesOf (ps.drop (halfN n))) (i - halfN n)).flatten := ⟨_, rfl⟩
    obtain ⟨d, hd0⟩ : ∃ d, d = (pathL (leavesOf (ps.drop (halfN n))) (i - halfN n)).length := ⟨_, rfl⟩
    obtain ⟨Y, hY⟩ : ∃ Y, Y = rootL (leavesOf (ps.take (halfN n))) := ⟨_, rfl⟩
    have hYl : Hid (Y.length = 32) := by rw [hY]; exact rootL_len _
    have hd : Hid (d ≤ 1000) := by
      show d ≤ 1000
      have := pathL_le (leavesOf (ps.drop (halfN n))) (i - halfN n)
      rw [leavesOf_len, List.length_drop] at this
      omega
    have HP : Hid ((pathL (leavesOf ps) i).flatten = P ++ Y) := by
      show _ = _
      rw [pathL_r (by rw [leavesOf_len]; omega) (by rw [leavesOf_len]; omega) (by rw [leavesOf_len, hn]; exact hik), leavesOf_len, hn, ← leavesOf_take, ← leavesOf_drop, List.flatten_append, List.flatten_singleton, ← hP, ← hY]
    have HD : Hid ((pathL (leavesOf ps) i).length = d + 1) := by
      show _ = _
      rw [pathL_r (by rw [leavesOf_len]; omega) (by rw [leavesOf_len]; omega) (by rw [leavesOf_len, hn]; exact hik), leavesOf_len, hn, ← leavesOf_take, ← leavesOf_drop, List.length_append, List.length_singleton, ← hd0]
    rw [← hP, ← hd0] at hpa
    rw [← hY] at hro
    clear hP hd0 hY ih hr hl
    obtain ⟨A2, hA2⟩ : ∃ A2, A2 = (if c = halfN n then A else A.map (·.add (halfN n))) := ⟨_, rfl⟩
    obtain ⟨m, hm⟩ : ∃ m, m = n - halfN n := ⟨_, rfl⟩
    obtain ⟨c2, hc2⟩ : ∃ c2, c2 = c - halfN n := ⟨_, rfl⟩
    have hsub := fun w' => sub_nat i (halfN n) (by omega) (by omega) w'
    obtain ⟨i2, hi2⟩ : ∃ i2, i2 = i - halfN n := ⟨_, rfl⟩
    rw [← hA2, ← hm, ← hc2, ← hi2] at hpa
    rw [← hA2, ← hm, ← hc2] at hlo
    rw [← hi2] at hsub
    clear hi2
    clear hA2 hm hc2
    have hik2 : ¬ (i : Int) < (halfN n : Int) := by omega
    generalize halfN n = k at hls hk1 hk2 hro hsub hlo hik hik2
    have hkc : k ≤ c := by omega
    go_enter Tryd.func22, Tryd.ntmps22
    go_upto_region 6 with (go_at_call 41; refine (hls _).mono ?_; rintro e w5 ⟨rfl, h5w⟩; obtain rfl : w0 = w5 := h5w.symm)
    refine wp_region_gb (al := rrAl) 14 (N := 49) (S := rrS) (die := rrDie) (own := rrOwn) (F := rrF A A2 n k m c c2 i i2 d P Y) (by kernel_rfl) (Nat.le_of_ble_eq_true (by kernel_rfl)) (fun h => absurd (show 14 < 14 from h) (Nat.lt_irrefl _)) (fun h => absurd (show 14 < 14 from h) (Nat.lt_irrefl _)) (by kernel_rfl) (by kernel_rfl) (Nat.le_of_ble_eq_true (by kernel_rfl)) (rrF_lasts A A2 n k m c c2 i i2 d P Y) ?_ ?_
    · intro i o L' a w K hi ho hg hLi hout hpre houter hitem h1 h2 h3
      have hcases : i = 0 ∨ i = 1 ∨ i = 2 ∨ i = 3 ∨ i = 4 ∨ i = 5 ∨ i = 6 ∨ i = 7 ∨ i = 8 ∨ i = 9 ∨ i = 10 ∨ i = 11 ∨ i = 12 ∨ i = 13 := by omega
      rcases hcases with rfl | rfl | rfl | rfl | rfl | rfl | rfl | rfl | rfl | rfl | rfl | rfl | rfl | rfl
      · cases (show some _ = some o from ho)
        exact ⟨rfl, wp_move rfl (h1 ⟨_, rfl⟩ _ _ (grown_refl _ none) (houter _ rfl) (by rw [houter _ rfl]; exact nobl rfl) (by rw [houter _ rfl]; exact FreshB.none rfl))⟩
      · cases (show some _ = some o from ho)
        exact ⟨rfl, wp_move rfl (h1 ⟨_, rfl⟩ _ _ (grown_refl _ none) (houter _ rfl) (by rw [houter _ rfl]; exact nobl rfl) (by rw [houter _ rfl]; exact FreshB.none rfl))⟩
      · cases (show some _ = some o from ho)
        exact ⟨rfl, wp_slice_lo rfl (hitem 0 (by decide) ⟨hpre 0 rfl, hout _ (by decide)⟩) (hitem 1 (by decide) ⟨hpre 1 rfl, hout _ (by decide)⟩) (hlo _) (h1 ⟨_, rfl⟩ _ _ (grown_refl _ none) rfl (nobl rfl) (FreshB.none rfl))⟩
      · cases (show some _ = some o from ho)
        exact ⟨rfl, wp_move rfl (h1 ⟨_, rfl⟩ _ _ (grown_refl _ none) (houter _ rfl) (by rw [houter _ rfl]; exact nobl rfl) (by rw [houter _ rfl]; exact FreshB.none rfl))⟩
      · cases (show some _ = some o from ho)
        exact ⟨rfl, wp_move rfl (h1 ⟨_, rfl⟩ _ _ (grown_refl _ none) (houter _ rfl) (by rw [houter _ rfl]; exact nobl rfl) (by rw [houter _ rfl]; exact FreshB.none rfl))⟩
      · cases (show some _ = some o from ho)
        exact ⟨rfl, wp_bin rfl (hitem 3 (by decide) ⟨hpre 3 rfl, hout _ (by decide)⟩) (hitem 4 (by decide) ⟨hpre 4 rfl, hout _ (by decide)⟩) (guard_subI _ _ _ _ _) (hsub _) (h1 ⟨_, rfl⟩ _ _ (grown_refl _ none) rfl (nobl rfl) (FreshB.none rfl))⟩
      · cases (show some _ = some o from ho)
        have x38 : a.eval (.tmp 38) = .slice A2 m c2 := hitem 2 (by decide) ⟨hpre 2 rfl, hout _ (by decide)⟩
        have x41 : a.eval (.tmp 41) = .int .i64 (i2 : Int) := hitem 5 (by decide) ⟨hpre 5 rfl, hout _ (by decide)⟩
        refine ⟨rfl, wp_call rfl Tryd.func22 (by kernel_rfl) (by kernel_rfl) (args := #[.slice A2 m c2, .int .i64 (i2 : Int)]) (by simp [x38, x41]) ((hpa w hg).mono ?_)⟩
        rintro e w' ⟨v, rfl, hf', hg', hn', ht'⟩
        exact ⟨_, rfl, h1 ⟨_, rfl⟩ _ _ hg' hf' ht' (FreshB.new hn')⟩
      · cases (show some _ = some o from ho)
        exact ⟨rfl, wp_move rfl (h1 ⟨_, rfl⟩ _ _ (grown_refl _ none) (houter _ rfl) (by rw [houter _ rfl]; exact nobl rfl) (by rw [houter _ rfl]; exact FreshB.none rfl))⟩
      · cases (show some _ = some o from ho)
        exact ⟨rfl, wp_move rfl (h1 ⟨_, rfl⟩ _ _ (grown_refl _ none) (houter _ rfl) (by rw [houter _ rfl]; exact nobl rfl) (by rw [houter _ rfl]; exact FreshB.none rfl))⟩
      · cases (show some _ = some o from ho)
        exact ⟨rfl, wp_slice_hi rfl (hitem 7 (by decide) ⟨hpre 7 rfl, hout _ (by decide)⟩) (hitem 8 (by decide) ⟨hpre 8 rfl, hout _ (by decide)⟩) (sl_hiP A n c k hkc _) (h1 ⟨_, rfl⟩ _ _ (grown_refl _ none) rfl (nobl rfl) (FreshB.none rfl))⟩
      · cases (show some _ = some o from ho)
        have x45 : a.eval (.tmp 45) = .slice A k c := hitem 9 (by decide) ⟨hpre 9 rfl, hout _ (by decide)⟩
        refine ⟨rfl, wp_call rfl Tryd.func24 (by kernel_rfl) (by kernel_rfl) (args := #[.slice A k c]) (by simp [x45]) ((hro w hg).mono ?_)⟩
        rintro e w' ⟨rfl, hg'⟩
        exact ⟨_, rfl, h1 ⟨_, rfl⟩ _ _ hg' rfl (nobl (blocks_bytes _)) (FreshB.none (blocks_bytes _))⟩
      · cases (show some _ = some o from ho)
        exact ⟨rfl, wp_lit1 rfl (hitem 10 (by decide) ⟨hpre 10 rfl, hout _ (by decide)⟩) (lit_1h Y hYl.out _) (h1 ⟨_, rfl⟩ _ _ (grown_alloc (grown_refl _ _) _) ⟨_, rfl, rd_row (heap_alloc_new _ _)⟩ (new_lt _ _) (FreshB.new (new_ge _)))⟩
      · cases (show some _ = some o from ho)
        have hu := hitem 6 (by decide) ⟨hpre 6 rfl, hLi⟩
        obtain ⟨b, e1, hb⟩ := hitem 11 (by decide) ⟨hpre 11 rfl, hout _ (by decide)⟩
        exact ⟨rfl, wp_appH rfl rfl hu e1 hb (by rw [hYl.out]) (by omega) (by have := hd.out; omega) fun v w' hv hw => h2 ⟨_, rfl⟩ 6 v w' _ (by decide) ⟨hpre 6 rfl, hLi⟩ rfl rfl hw.1 (ownH_mem hu) hv (ownH_lt hv) (grewH_blocks hu hv hw)⟩
      · cases (show some _ = some o from ho)
        have hu := hitem 12 (by decide) ⟨hpre 12 rfl, hLi⟩
        exact ⟨rfl, wp_assign rfl (h2 ⟨_, rfl⟩ 12 _ _ none (by decide) ⟨hpre 12 rfl, hLi⟩ rfl rfl (grown_refl _ none) (fun g e => by cases e) hu (ownH_lt hu) (fun g e => .inr (.inl e)))⟩
    · intro a wT hgT hend hap ha
      obtain ⟨f, hf⟩ : ∃ f : Nat → Value, f = fun t => a.tmps.getD t undef := ⟨_, rfl⟩
      obtain ⟨v4, s4, ho4, hn4⟩ : ∃ v, f 4 = v ∧ OwnHs wT v (P ++ Y) (d + 1) ∧ ∀ g ∈ blocksOf v, w0.heap.size ≤ g := ⟨_, congrFun hf 4, (hend 13 (by decide) (by decide)).1, (hend 13 (by decide) (by decide)).2 rfl⟩
      rw [← hf] at ha
      clear hend hap
      clear hf
      subst ha
      simp only [fill, rrS, Nat.reduceAdd, Nat.reduceBEq, Bool.or_false, Bool.or_true, cond_true, cond_false, List.drop_succ_cons, List.drop_zero, s4]
      clear s4
      go_wp2_with fail
      go_ret
      rw [HP.out, HD.out]
      exact ⟨v4, rfl, ho4, hgT, hn4, ownH_lt ho4⟩
end Go.Proofs.YtmfnncfiaaeknaaDoor
