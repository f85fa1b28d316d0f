/- Merkle trees: a leaf's root, the root of two parts, the root of a row of leaves; the program's and the document's own. -/
import Derived.Test.YtmfnncfiaaeknaaDoorTreeA
import Derived.Test.YtmfnncfiaaeknaaDoorLamK
namespace Go.Proofs.YtmfnncfiaaeknaaDoor
open Go.RowKit

theorem half_any (n : Nat) (h1 : 2 ≤ n) (h2 : n ≤ 100000000) (w : World) :
    Calls Tryd.prog 41 #[.int .i64 (n : Int)] w fun e w' => e = .returned (.int .i64 (halfN n : Int)) ∧ w' = w := by
  go_enter Tryd.func41, Tryd.ntmps41
  go_wp2
  go_loopw [3] (fun x wz => ∃ j k : Nat, k = 2 ^ j ∧ k < n ∧ x = .int .i64 (k : Int) ∧ wz = w) (fun x _ => n - (intOf x).toNat)
  case atStart => exact ⟨0, 1, rfl, by omega, rfl, rfl⟩
  case round =>
    obtain ⟨j, k, hj, hkn, rfl, rfl⟩ := hrel
    have hk0 : 1 ≤ k := by rw [hj]; exact Nat.one_le_two_pow
    by_cases hlt : 2 * k < n
    · have hlt' : 2 * (k : Int) < (n : Int) := by omega
      have HJ : Hid (2 * k = 2 ^ (j + 1)) := by show _ = _; rw [Nat.pow_succ, ← hj, Nat.mul_comm]
      clear hj
      go_wp2
      go_roundw
      case rel => exact ⟨j + 1, 2 * k, HJ.out, hlt, by go_num, trivial⟩
      case measure => simp [intOf]; omega
    · have hlt' : ¬ 2 * (k : Int) < (n : Int) := by omega
      have HE : Hid (halfN n = k) := by
        show _ = _
        rw [hj]; exact halfN_eq (by omega) (by omega)
      clear hj
      go_wp2
      go_ret
      exact ⟨by rw [HE.out]; rfl, rfl⟩

theorem sl_hiP (A : Option Addr) (n c k : Nat) (hk : k ≤ c) (w : World) : (Instr.sliceAt 38 (.slice A n c) none (some (.int .i64 (k : Int))) none).run Tryd.prog w = .ok (.slice A k c) w := by
  rw [run_sliceAt_slice (P := Tryd.prog) (w := w) (t := 38) (h := by kernel_rfl), run_slice_h (P := Tryd.prog) (w := w) (ht := by kernel_rfl) (h0 := by omega) (h2 := by omega)]
  have he : (sizeOf (Tryd.prog.elem 38)).run Tryd.prog w = .ok 1 w := by kernel_rfl
  rw [he, Result.andThen_ok]
  cases A with
  | none => simp [sliced]
  | some ad =>
    have e : ad.add 0 = ad := by unfold Addr.add; split <;> simp_all
    simp [sliced, e]
theorem sl_loP (A : Option Addr) (n c k : Nat) (hk : k ≤ n) (w : World) : (Instr.sliceAt 38 (.slice A n c) (some (.int .i64 (k : Int))) none none).run Tryd.prog w = .ok (.slice (if c = k then A else A.map (·.add k)) (n - k) (c - k)) w := by
  rw [run_sliceAt_slice (P := Tryd.prog) (w := w) (t := 38) (h := by kernel_rfl), run_slice_l (P := Tryd.prog) (w := w) (ht := by kernel_rfl) (h0 := by omega) (h1 := by omega)]
  have he : (sizeOf (Tryd.prog.elem 38)).run Tryd.prog w = .ok 1 w := by kernel_rfl
  rw [he, Result.andThen_ok]
  simp [sliced]
theorem RdP.take {w : World} {A : Option Addr} {ps : List Part} (h : RdP w A ps) (k : Nat) : RdP w A (ps.take k) :=
  ⟨by rw [List.map_take]; exact h.1.take k, fun p hp => h.2 p (List.mem_of_mem_take hp)⟩
theorem RdP.cut {w : World} {A : Option Addr} {ps : List Part} (h : RdP w A ps) {k c : Nat} (hc : ps.length ≤ c) : RdP w (if c = k then A else A.map (·.add k)) (ps.drop k) :=
  ⟨by rw [List.map_drop]; exact h.1.cut (by rw [List.length_map]; exact hc), fun p hp => h.2 p (List.mem_of_mem_drop hp)⟩
/-- Leaves' bytes. -/
def leavesOf (ps : List Part) : List (List UInt8) := ps.map fun p => p.2.1
theorem leavesOf_len (ps : List Part) : (leavesOf ps).length = ps.length := List.length_map ..
theorem leavesOf_take (ps : List Part) (k : Nat) : leavesOf (ps.take k) = (leavesOf ps).take k := List.map_take ..
theorem leavesOf_drop (ps : List Part) (k : Nat) : leavesOf (ps.drop k) = (leavesOf ps).drop k := List.map_drop ..

def Part2 (p q : Part) (v : Value) (w : World) : Prop := ∃ b, v = .slice (some ⟨b, 0, none⟩) 2 2 ∧ RdAt w (some ⟨b, 0, none⟩) [pv p, pv q]
theorem LastsB.part2 {al : Nat → Bool} {k : Nat} (ha : al k = false) (p q : Part) : LastsB al k (Part2 p q) := by
  rintro v w w' row ⟨b, rfl, h⟩ hg hne
  exact ⟨b, rfl, h.keep hg (fun ad e => by cases e; exact hne b (by simp [bl, ha, blocksOf]))⟩
/-- Two hashes in blocks of their own, as parts. -/
def hp (g : Nat) (X : List UInt8) : Part := (some ⟨g, 0, none⟩, X, 32)
theorem pv_hp {g : Nat} {X : List UInt8} (h : X.length = 32) : Value.slice (some ⟨g, 0, none⟩) 32 32 = pv (hp g X) := by simp [pv, hp, h]
theorem rd_hp2 {w : World} {A : Option Addr} {g h : Nat} {X Y : List UInt8} {t u : TypeId} (h0 : RdAt w A [pv (hp g X), pv (hp h Y)]) (h1 : w.heap[g]? = some (.cells (X.map bv).toArray t (0, 0))) (h2 : w.heap[h]? = some (.cells (Y.map bv).toArray u (0, 0))) : RdP w A [hp g X, hp h Y] :=
  ⟨h0, fun q hq => by
    simp only [List.mem_cons, List.not_mem_nil, or_false] at hq
    rcases hq with rfl | rfl
    · exact rd_row h1
    · exact rd_row h2⟩
theorem cat_hp2 (g h : Nat) (X Y : List UInt8) : catP [hp g X, hp h Y] = X ++ Y := by simp [catP, hp]


set_option maxRecDepth 100000 in
theorem leafRoot_any (A : Option Addr) (m : List UInt8) (c : Nat) (w : World) (hk : Laid2 w) (hr : RdB w A m) (hb : m.length ≤ 1000) :
    Calls Tryd.prog 39 #[.slice A m.length c] w fun e w' => e = .returned (.agg ((tagL 0 m).map bv).toArray) ∧ w.grownBy w' none := by
  have htag := fun A' w' (h1 : Laid2 w') (h3 : RdP w' A' [(A, m, c)]) => Tagged_any 0 A' [(A, m, c)] 1 w' h1.1 h1.2 h3 (by simp [catP]; omega) (by simp)
  obtain ⟨X, hX⟩ : ∃ X, X = tagL 0 (catP [(A, m, c)]) := ⟨_, rfl⟩
  rw [← hX] at htag
  have HX : Hid (X = tagL 0 m) := by show _ = _; rw [hX]; simp [catP]
  have hXl : Hid (X.length = 32) := by rw [hX]; exact tagL_len _ _
  clear hX
  change ∀ A' w', Laid2 w' → RdP w' A' _ → Calls Tryd.prog 38 #[.int .u8 0, .slice A' 1 1] w' _ at htag
  go_enter Tryd.func39, Tryd.ntmps39
  go_wp2_with (first
    | (go_at_call 38; refine (htag _ _ (hk.kept (by first | exact grown_refl _ _ | exact grown_alloc (grown_refl _ _) _ | exact grown_alloc (grown_alloc (grown_refl _ _) _) _ | exact grown_alloc (grown_alloc (grown_alloc (grown_refl _ _) _) _) _)) (rdP_kept1 (rd_row (cs := [_]) (alloc_at (by simp))) ((hr.alloc _).alloc _))).mono ?_; rintro e w6 ⟨rfl, hg6⟩)
    | (refine wpList_store_row rfl 23 _ _ rfl (w.heap.size) (X.map bv).toArray rfl rfl 23 _ (keep_of (alloc_old (alloc_at rfl)) hg6) (hashV_size X hXl.out) (by rw [show (X.map bv).toArray.size = 32 from by rw [List.size_toArray, List.length_map, hXl.out]]; rfl) (bv_all' _) ?_))
  refine bodyPost_ret (results_cell_row rfl _ _ (w.heap.size) 23 (X.map bv).toArray (0, 0) _ rfl (setRow_heap _ _ _ _ _ _ (keep_of (alloc_old (alloc_at rfl)) hg6)) Tryd.underlying23 rfl (hashV_size X hXl.out)) rfl ?_
  exact ⟨by rw [HX.out], grown_setRow (grown_same (grown_alloc (grown_alloc (grown_refl _ _) _) _) hg6) (.inr (by omega)) _⟩
def jaS (t : Nat) : Bool := t == 5 || t == 6 || t == 7 || t == 8
def jaDie (_ : Nat) : Nat := 99
def jaOwn (_ : Nat) : Bool := false
def jaAl (k : Nat) : Bool := k == 0 || k == 1
def jaF (g2 g3 : Nat) (X Y Z : List UInt8) : Nat → Value → World → Prop
  | 0 => fun v _ => v = .slice (some ⟨g2, 0, none⟩) 32 32
  | 1 => fun v _ => v = .slice (some ⟨g3, 0, none⟩) 32 32
  | 2 => Part2 (hp g2 X) (hp g3 Y)
  | 3 => fun v _ => v = (.agg (Z.map bv).toArray)
  | _ => fun _ _ => True
theorem jaF_lasts (g2 g3 : Nat) (X Y Z : List UInt8) : ∀ kq, LastsB jaAl kq (jaF g2 g3 X Y Z kq)
  | 0 => LastsB.val _
  | 1 => LastsB.val _
  | 2 => LastsB.part2 rfl _ _
  | 3 => LastsB.val _
  | _ + 4 => fun _ _ _ _ _ _ _ => trivial

set_option maxRecDepth 100000 in
theorem join_any (X Y : List UInt8) (hX : X.length = 32) (hY : Y.length = 32) (w0 : World) (hk : Laid2 w0) :
    Calls Tryd.prog 40 #[.agg (X.map bv).toArray, .agg (Y.map bv).toArray] w0 fun e w' => e = .returned (.agg ((tagL 1 (X ++ Y)).map bv).toArray) ∧ w0.grownBy w' none := by
  have hXl := Lib.hid hX
  have hYl := Lib.hid hY
  obtain ⟨Z, hz⟩ : ∃ Z, Z = tagL 1 (X ++ Y) := ⟨_, rfl⟩
  have hZl : Hid (Z.length = 32) := by rw [hz]; exact tagL_len _ _
  rw [← hz]
  have hZ := Lib.hid hz
  clear hX hY hz
  go_enter Tryd.func40, Tryd.ntmps40
  go_upto_region 1 with (fail)
  generalize hW : World.alloc (World.alloc (World.alloc w0 _) _) _ = W
  have hb2 : W.heap[w0.heap.size]? = some (.cells (X.map bv).toArray 23 (0, 0)) := by rw [← hW]; exact alloc_old (alloc_old (alloc_at rfl))
  have hb3 : W.heap[w0.heap.size + 1]? = some (.cells (Y.map bv).toArray 23 (0, 0)) := by rw [← hW]; exact alloc_old (alloc_at (by simp))
  have hb4 : W.heap[w0.heap.size + 2]? = some (.cells (rowH []) 23 (0, 0)) := by rw [← hW]; exact alloc_at (by simp)
  have hgW : w0.grownBy W none := by rw [← hW]; exact grown_alloc (grown_alloc (grown_alloc (grown_refl _ _) _) _) _
  clear hW
  replace hk := hk.kept hgW
  refine wp_region_gb (al := jaAl) 4 (N := 9) (S := jaS) (die := jaDie) (own := jaOwn) (F := jaF (w0.heap.size) (w0.heap.size + 1) X Y Z) (by kernel_rfl) (Nat.le_of_ble_eq_true (by kernel_rfl)) (fun _ => by kernel_rfl) (fun _ => by kernel_rfl) (by kernel_rfl) (by kernel_rfl) (Nat.le_of_ble_eq_true (by kernel_rfl)) (jaF_lasts (w0.heap.size) (w0.heap.size + 1) X Y Z) ?_ ?_
  · intro i o L' a w K hi ho hg hLi hout hpre houter hitem h1 h2 h3
    have hcases : i = 0 ∨ i = 1 ∨ i = 2 ∨ i = 3 := by omega
    rcases hcases with rfl | rfl | rfl | rfl
    · cases (show some _ = some o from ho)
      exact ⟨rfl, wp_slice_all rfl (houter 2 rfl) (sl_arr _ _ _) (h1 ⟨_, rfl⟩ _ _ (grown_refl _ none) rfl (nobl rfl) (FreshB.none rfl))⟩
    · cases (show some _ = some o from ho)
      exact ⟨rfl, wp_slice_all rfl (houter 3 rfl) (sl_arr _ _ _) (h1 ⟨_, rfl⟩ _ _ (grown_refl _ none) rfl (nobl rfl) (FreshB.none rfl))⟩
    · cases (show some _ = some o from ho)
      exact ⟨rfl, wp_lit2 rfl ((show a.eval (.tmp 5) = .slice (some ⟨(w0.heap.size), 0, none⟩) 32 32 from hitem 0 (by decide) ⟨hpre 0 rfl, hout _ (by decide)⟩).trans (pv_hp hXl.out)) ((show a.eval (.tmp 6) = .slice (some ⟨(w0.heap.size + 1), 0, none⟩) 32 32 from hitem 1 (by decide) ⟨hpre 1 rfl, hout _ (by decide)⟩).trans (pv_hp hYl.out)) (lit_p2 _ _ _) (h1 ⟨_, rfl⟩ _ _ (grown_alloc (grown_refl _ _) _) ⟨_, rfl, rd_row (cs := [_, _]) (heap_alloc_new _ _)⟩ (new_lt _ _) (FreshB.new (new_ge _)))⟩
    · cases (show some _ = some o from ho)
      obtain ⟨b, e1, h4⟩ := hitem 2 (by decide) ⟨hpre 2 rfl, hout _ (by decide)⟩
      exact ⟨rfl, wp_tag (t := 1) (ps := [hp (w0.heap.size) X, hp (w0.heap.size + 1) Y]) (l := X ++ Y) rfl rfl e1 (rd_hp2 h4 (keep_of hb2 hg) (keep_of hb3 hg)) rfl (cat_hp2 _ _ _ _) (hk.kept hg).1 (hk.kept hg).2 (by rw [List.length_append, hXl.out, hYl.out]; omega) (by simp) (fun w' hg' => by rw [← hZ.out]; exact h1 ⟨_, rfl⟩ _ _ hg' rfl (nobl (blocks_bytes _)) (FreshB.none (blocks_bytes _)))⟩
  · intro a wT hgT hend hap ha
    obtain ⟨f, hf⟩ : ∃ f : Nat → Value, f = fun t => a.tmps.getD t undef := ⟨_, rfl⟩
    have s8 : f 8 = (.agg (Z.map bv).toArray) := by rw [hf]; exact (hend 3 (by decide) (by decide)).1
    rw [← hf] at ha
    clear hend hap
    clear hf
    subst ha
    simp only [fill, jaS, Nat.reduceAdd, Nat.reduceBEq, Bool.or_false, Bool.or_true, cond_true, cond_false, List.drop_succ_cons, List.drop_zero, s8]
    clear s8
    replace hb4 := keep_of hb4 hgT
    go_wp2_with (refine wpList_store_row rfl 23 _ _ rfl (w0.heap.size + 2) (Z.map bv).toArray rfl rfl 23 _ (hb4) (hashV_size Z hZl.out) (by rw [show (Z.map bv).toArray.size = 32 from by rw [List.size_toArray, List.length_map, hZl.out]]; rfl) (bv_all' _) ?_)
    refine bodyPost_ret (results_cell_row rfl _ _ (w0.heap.size + 2) 23 (Z.map bv).toArray (0, 0) _ rfl (setRow_heap _ _ _ _ _ _ (hb4)) Tryd.underlying23 rfl (hashV_size Z hZl.out)) rfl ?_
    exact ⟨rfl, grown_setRow (grown_same hgW hgT) (.inr (by omega)) _⟩
def taS (t : Nat) : Bool := t == 18 || t == 19 || t == 20 || t == 21 || t == 22 || t == 23 || t == 24 || t == 25 || t == 26
def taDie (_ : Nat) : Nat := 99
def taOwn (_ : Nat) : Bool := false
def taAl (k : Nat) : Bool := k == 0 || k == 2 || k == 4 || k == 6
def taF (A A2 : Option Addr) (n k m c c2 : Nat) (X Y Z : List UInt8) : Nat → Value → World → Prop
  | 0 => fun v _ => v = .slice A n c
  | 1 => fun v _ => v = .int .i64 (k : Int)
  | 2 => fun v _ => v = .slice A k c
  | 3 => fun v _ => v = (.agg (X.map bv).toArray)
  | 4 => fun v _ => v = .slice A n c
  | 5 => fun v _ => v = .int .i64 (k : Int)
  | 6 => fun v _ => v = .slice A2 m c2
  | 7 => fun v _ => v = (.agg (Y.map bv).toArray)
  | 8 => fun v _ => v = (.agg (Z.map bv).toArray)
  | _ => fun _ _ => True
theorem taF_lasts (A A2 : Option Addr) (n k m c c2 : Nat) (X Y Z : List UInt8) : ∀ kq, LastsB taAl kq (taF A A2 n k m c c2 X Y Z kq)
  | 0 => LastsB.val _
  | 1 => LastsB.val _
  | 2 => LastsB.val _
  | 3 => LastsB.val _
  | 4 => LastsB.val _
  | 5 => LastsB.val _
  | 6 => LastsB.val _
  | 7 => LastsB.val _
  | 8 => LastsB.val _
  | _ + 9 => fun _ _ _ _ _ _ _ => trivial

set_option maxRecDepth 100000 in
set_option maxHeartbeats 2000000 in
theorem Root_any : ∀ (n : Nat) (A : Option Addr) (ps : List Part) (c : Nat) (w : World), ps.length = n → n ≤ c → n ≤ 500 → (∀ p ∈ ps, p.2.1.length ≤ 1000) → Laid2 w → RdP w A ps →
    Calls Tryd.prog 19 #[.slice A n c] w fun e w' => e = .returned (.agg ((rootL (leavesOf ps)).map bv).toArray) ∧ w.grownBy w' none := by
  intro n
  induction n using Nat.strongRecOn with
  | ind n ih =>
  intro A ps c w hn hc h5 hl hk hr
  by_cases h0 : n = 0
  · subst h0
    obtain rfl := List.length_eq_zero_iff.1 hn
    have htag := fun w' (h1 : Laid2 w') => Tagged_any 2 none [] 0 w' h1.1 h1.2 ⟨RdAt.nil, by simp⟩ (by simp [catP]) (by simp)
    obtain ⟨X, hX⟩ : ∃ X, X = tagL 2 (catP []) := ⟨_, rfl⟩
    rw [← hX] at htag
    have HX : Hid (X = rootL (leavesOf [])) := by show _ = _; rw [hX]; exact rootL_0.symm
    have hXl : Hid (X.length = 32) := by rw [hX]; exact tagL_len _ _
    rw [← HX.out]
    clear hX ih
    change ∀ w', Laid2 w' → Calls Tryd.prog 38 #[.int .u8 2, .slice none 0 0] w' _ at htag
    go_enter Tryd.func19, Tryd.ntmps19
    go_wp2_with (first
      | (go_at_call 38; refine (htag _ (hk.kept (by first | exact grown_refl _ _ | exact grown_alloc (grown_refl _ _) _ | exact grown_alloc (grown_alloc (grown_refl _ _) _) _ | exact grown_alloc (grown_alloc (grown_alloc (grown_refl _ _) _) _) _)) ).mono ?_; rintro e w6 ⟨rfl, hg6⟩)
      | (refine wpList_store_row rfl 23 _ _ rfl (w.heap.size) (X.map bv).toArray rfl rfl 23 _ (keep_of (alloc_at rfl) hg6) (hashV_size X hXl.out) (by rw [show (X.map bv).toArray.size = 32 from by rw [List.size_toArray, List.length_map, hXl.out]]; rfl) (bv_all' _) ?_))
    refine bodyPost_ret (results_cell_row rfl _ _ (w.heap.size) 23 (X.map bv).toArray (0, 0) _ rfl (setRow_heap _ _ _ _ _ _ (keep_of (alloc_at rfl) hg6)) Tryd.underlying23 rfl (hashV_size X hXl.out)) rfl ?_
    exact ⟨rfl, grown_setRow (grown_same (grown_alloc (grown_refl _ _) _) hg6) (.inr (by omega)) _⟩
  by_cases h1 : n = 1
  · subst h1
    obtain ⟨p, rfl⟩ := List.length_eq_one_iff.1 hn
    obtain ⟨ad, rfl, hc0, hr0⟩ := hr.get (k := 0) (by simp)
    have hl0 := hl p (by simp)
    obtain ⟨pA, pl, pc⟩ := p
    simp only [List.getElem_cons_zero] at hc0 hr0 hl0
    rw [show ad.add 0 = ad from by unfold Addr.add; split <;> simp_all] at hc0
    have hle := fun w' (h : w.grownBy w' none) => leafRoot_any pA pl pc w' (hk.kept h) (hr0.kept h) hl0
    obtain ⟨X, hX⟩ : ∃ X, X = tagL 0 pl := ⟨_, rfl⟩
    rw [← hX] at hle
    have HX : Hid (X = rootL (leavesOf [(pA, pl, pc)])) := by show _ = _; rw [hX, show leavesOf [(pA, pl, pc)] = [pl] from rfl, rootL_1]
    have hXl : Hid (X.length = 32) := by rw [hX]; exact tagL_len _ _
    rw [← HX.out]
    obtain ⟨m, hm⟩ : ∃ m, m = pl.length := ⟨_, rfl⟩
    rw [← hm] at hc0 hle
    have hc1 : ∀ o, (w.alloc o).cell? ad = some (.slice pA m pc) := fun o => (grown_alloc (grown_refl w none) o).cell hc0 (by simp)
    clear hX hm ih
    go_enter Tryd.func19, Tryd.ntmps19
    go_wp2_with (first
      | (go_at_call 39; refine (hle _ (grown_alloc (grown_refl _ _) _)).mono ?_; rintro e w6 ⟨rfl, hg6⟩)
      | (refine wpList_store_row rfl 23 _ _ rfl (w.heap.size) (X.map bv).toArray rfl rfl 23 _ (keep_of (alloc_at rfl) hg6) (hashV_size X hXl.out) (by rw [show (X.map bv).toArray.size = 32 from by rw [List.size_toArray, List.length_map, hXl.out]]; rfl) (bv_all' _) ?_))
    refine bodyPost_ret (results_cell_row rfl _ _ (w.heap.size) 23 (X.map bv).toArray (0, 0) _ rfl (setRow_heap _ _ _ _ _ _ (keep_of (alloc_at rfl) hg6)) Tryd.underlying23 rfl (hashV_size X hXl.out)) rfl ?_
    exact ⟨rfl, grown_setRow (grown_same (grown_alloc (grown_refl _ _) _) hg6) (.inr (by omega)) _⟩
  · have h2 : 2 ≤ n := by omega
    have hls := fun w' => leftSize_any n (by omega) (by omega) w'
    have hk1 := halfN_pos n
    have hk2 := halfN_lt h2
    have hro1 := fun w' (hg : w.grownBy w' none) => ih (halfN n) hk2 A (ps.take (halfN n)) c w' (by rw [List.length_take]; omega) (by omega) (by omega) (fun p hp => hl p (List.mem_of_mem_take hp)) (hk.kept hg) ((hr.take _).kept hg)
    have hro2 := fun w' (hg : w.grownBy w' none) => ih (n - halfN n) (by omega) (if c = halfN n then A else A.map (·.add (halfN n))) (ps.drop (halfN n)) (c - halfN n) w' (by rw [List.length_drop]; omega) (by omega) (by omega) (fun p hp => hl p (List.mem_of_mem_drop hp)) (hk.kept hg) ((hr.cut (by omega)).kept hg)
    have hlo := fun w' => sl_loP A n c (halfN n) (by omega) w'
    obtain ⟨X, hX⟩ : ∃ X, X = rootL (leavesOf (ps.take (halfN n))) := ⟨_, rfl⟩
    obtain ⟨Y, hY⟩ : ∃ Y, Y = rootL (leavesOf (ps.drop (halfN n))) := ⟨_, rfl⟩
    have hXl : Hid (X.length = 32) := by rw [hX]; exact rootL_len _
    have hYl : Hid (Y.length = 32) := by rw [hY]; exact rootL_len _
    obtain ⟨Z, hz⟩ : ∃ Z, Z = tagL 1 (X ++ Y) := ⟨_, rfl⟩
    have hZl : Hid (Z.length = 32) := by rw [hz]; exact tagL_len _ _
    have HZ : Hid (rootL (leavesOf ps) = Z) := by
      show _ = _
      rw [rootL_2 (by rw [leavesOf_len]; omega), leavesOf_len, hn, hz, hX, hY, leavesOf_take, leavesOf_drop]
    rw [HZ.out]
    rw [← hX] at hro1
    rw [← hY] at hro2
    clear hX hY HZ ih hr hl
    have hjo := fun w' (h : Laid2 w') => join_any X Y hXl.out hYl.out w' h
    rw [← hz] at hjo
    clear hz
    obtain ⟨A2, hA2⟩ : ∃ A2, A2 = (if c = halfN n then A else A.map (·.add (halfN n))) := ⟨_, rfl⟩
    obtain ⟨m, hm⟩ : ∃ m, m = n - halfN n := ⟨_, rfl⟩
    obtain ⟨c2, hc2⟩ : ∃ c2, c2 = c - halfN n := ⟨_, rfl⟩
    rw [← hA2, ← hm, ← hc2] at hro2 hlo
    clear hA2 hm hc2
    generalize halfN n = k at hls hk1 hk2 hro1 hlo
    have hkc : k ≤ c := by omega
    have e0 : ¬ (n : Int) = 0 := by omega
    have e1 : ¬ (n : Int) = 1 := by omega
    go_enter Tryd.func19, Tryd.ntmps19
    go_upto_region 7 with (go_at_call 36; refine (hls _).mono ?_; rintro e w5 ⟨rfl, rfl⟩)
    generalize hW : World.alloc w _ = W
    have hb2 : W.heap[w.heap.size]? = some (.cells (rowH []) 23 (0, 0)) := by rw [← hW]; exact alloc_at rfl
    have hgW : w.grownBy W none := by rw [← hW]; exact grown_alloc (grown_refl _ _) _
    clear hW
    replace hro1 := fun w' (h : W.grownBy w' none) => hro1 w' (grown_same hgW h)
    replace hro2 := fun w' (h : W.grownBy w' none) => hro2 w' (grown_same hgW h)
    replace hk := hk.kept hgW
    refine wp_region_gb (al := taAl) 9 (N := 27) (S := taS) (die := taDie) (own := taOwn) (F := taF A A2 n k m c c2 X Y Z) (by kernel_rfl) (Nat.le_of_ble_eq_true (by kernel_rfl)) (fun _ => by kernel_rfl) (fun _ => by kernel_rfl) (by kernel_rfl) (by kernel_rfl) (Nat.le_of_ble_eq_true (by kernel_rfl)) (taF_lasts A A2 n k m c c2 X Y Z) ?_ ?_
    · intro i o L' a w K hi ho hg hLi hout hpre houter hitem h1 h2 h3
      have hcases : i = 0 ∨ i = 1 ∨ i = 2 ∨ i = 3 ∨ i = 4 ∨ i = 5 ∨ i = 6 ∨ i = 7 ∨ i = 8 := by omega
      rcases hcases with rfl | rfl | rfl | rfl | rfl | rfl | rfl | rfl | rfl
      · cases (show some _ = some o from ho)
        exact ⟨rfl, wp_move rfl (h1 ⟨_, rfl⟩ _ _ (grown_refl _ none) (houter _ rfl) (by rw [houter _ rfl]; exact nobl rfl) (by rw [houter _ rfl]; exact FreshB.none rfl))⟩
      · cases (show some _ = some o from ho)
        exact ⟨rfl, wp_move rfl (h1 ⟨_, rfl⟩ _ _ (grown_refl _ none) (houter _ rfl) (by rw [houter _ rfl]; exact nobl rfl) (by rw [houter _ rfl]; exact FreshB.none rfl))⟩
      · cases (show some _ = some o from ho)
        exact ⟨rfl, wp_slice_hi rfl (hitem 0 (by decide) ⟨hpre 0 rfl, hout _ (by decide)⟩) (hitem 1 (by decide) ⟨hpre 1 rfl, hout _ (by decide)⟩) (sl_hiP A n c k hkc _) (h1 ⟨_, rfl⟩ _ _ (grown_refl _ none) rfl (nobl rfl) (FreshB.none rfl))⟩
      · cases (show some _ = some o from ho)
        have x20 : a.eval (.tmp 20) = .slice A k c := hitem 2 (by decide) ⟨hpre 2 rfl, hout _ (by decide)⟩
        refine ⟨rfl, wp_call rfl Tryd.func19 (by kernel_rfl) (by kernel_rfl) (args := #[.slice A k c]) (by simp [x20]) ((hro1 w hg).mono ?_)⟩
        rintro e w' ⟨rfl, hg'⟩
        exact ⟨_, rfl, h1 ⟨_, rfl⟩ _ _ hg' rfl (nobl (blocks_bytes _)) (FreshB.none (blocks_bytes _))⟩
      · cases (show some _ = some o from ho)
        exact ⟨rfl, wp_move rfl (h1 ⟨_, rfl⟩ _ _ (grown_refl _ none) (houter _ rfl) (by rw [houter _ rfl]; exact nobl rfl) (by rw [houter _ rfl]; exact FreshB.none rfl))⟩
      · cases (show some _ = some o from ho)
        exact ⟨rfl, wp_move rfl (h1 ⟨_, rfl⟩ _ _ (grown_refl _ none) (houter _ rfl) (by rw [houter _ rfl]; exact nobl rfl) (by rw [houter _ rfl]; exact FreshB.none rfl))⟩
      · cases (show some _ = some o from ho)
        exact ⟨rfl, wp_slice_lo rfl (hitem 4 (by decide) ⟨hpre 4 rfl, hout _ (by decide)⟩) (hitem 5 (by decide) ⟨hpre 5 rfl, hout _ (by decide)⟩) (hlo _) (h1 ⟨_, rfl⟩ _ _ (grown_refl _ none) rfl (nobl rfl) (FreshB.none rfl))⟩
      · cases (show some _ = some o from ho)
        have x24 : a.eval (.tmp 24) = .slice A2 m c2 := hitem 6 (by decide) ⟨hpre 6 rfl, hout _ (by decide)⟩
        refine ⟨rfl, wp_call rfl Tryd.func19 (by kernel_rfl) (by kernel_rfl) (args := #[.slice A2 m c2]) (by simp [x24]) ((hro2 w hg).mono ?_)⟩
        rintro e w' ⟨rfl, hg'⟩
        exact ⟨_, rfl, h1 ⟨_, rfl⟩ _ _ hg' rfl (nobl (blocks_bytes _)) (FreshB.none (blocks_bytes _))⟩
      · cases (show some _ = some o from ho)
        have x21 : a.eval (.tmp 21) = (.agg (X.map bv).toArray) := hitem 3 (by decide) ⟨hpre 3 rfl, hout _ (by decide)⟩
        have x25 : a.eval (.tmp 25) = (.agg (Y.map bv).toArray) := hitem 7 (by decide) ⟨hpre 7 rfl, hout _ (by decide)⟩
        refine ⟨rfl, wp_call rfl Tryd.func40 (by kernel_rfl) (by kernel_rfl) (args := #[(.agg (X.map bv).toArray), (.agg (Y.map bv).toArray)]) (by simp [x21, x25]) ((hjo w (hk.kept hg)).mono ?_)⟩
        rintro e w' ⟨rfl, hg'⟩
        exact ⟨_, rfl, h1 ⟨_, rfl⟩ _ _ hg' rfl (nobl (blocks_bytes _)) (FreshB.none (blocks_bytes _))⟩
    · intro a wT hgT hend hap ha
      obtain ⟨f, hf⟩ : ∃ f : Nat → Value, f = fun t => a.tmps.getD t undef := ⟨_, rfl⟩
      have s26 : f 26 = (.agg (Z.map bv).toArray) := by rw [hf]; exact (hend 8 (by decide) (by decide)).1
      rw [← hf] at ha
      clear hend hap
      clear hf
      subst ha
      simp only [fill, taS, Nat.reduceAdd, Nat.reduceBEq, Bool.or_false, Bool.or_true, cond_true, cond_false, List.drop_succ_cons, List.drop_zero, s26]
      clear s26
      replace hb2 := keep_of hb2 hgT
      go_wp2_with (refine wpList_store_row rfl 23 _ _ rfl (w.heap.size) (Z.map bv).toArray rfl rfl 23 _ (hb2) (hashV_size Z hZl.out) (by rw [show (Z.map bv).toArray.size = 32 from by rw [List.size_toArray, List.length_map, hZl.out]]; rfl) (bv_all' _) ?_)
      refine bodyPost_ret (results_cell_row rfl _ _ (w.heap.size) 23 (Z.map bv).toArray (0, 0) _ rfl (setRow_heap _ _ _ _ _ _ (hb2)) Tryd.underlying23 rfl (hashV_size Z hZl.out)) rfl ?_
      exact ⟨rfl, grown_setRow (grown_same hgW hgT) (.inr (by omega)) _⟩
def tbS (t : Nat) : Bool := t == 4 || t == 5 || t == 21 || t == 22 || t == 23 || t == 24 || t == 25 || t == 26 || t == 27 || t == 28
def tbDie (k : Nat) : Nat := if k = 8 then 10 else 99
def tbOwn (k : Nat) : Bool := k == 8 || k == 9 || k == 10
def tbAl (k : Nat) : Bool := k == 0 || k == 2 || k == 4 || k == 6 || k == 8 || k == 9 || k == 10
def tbF (A A2 : Option Addr) (n k m c c2 : Nat) (X Y : List UInt8) : Nat → Value → World → Prop
  | 0 => fun v _ => v = .slice A n c
  | 1 => fun v _ => v = .int .i64 (k : Int)
  | 2 => fun v _ => v = .slice A k c
  | 3 => fun v _ => v = (.agg (X.map bv).toArray)
  | 4 => fun v _ => v = .slice A n c
  | 5 => fun v _ => v = .int .i64 (k : Int)
  | 6 => fun v _ => v = .slice A2 m c2
  | 7 => fun v _ => v = (.agg (Y.map bv).toArray)
  | 8 => Made (rowH []) 23
  | 9 => Made (rowH []) 23
  | 10 => Stored 23
  | _ => fun _ _ => True
theorem tbF_lasts (A A2 : Option Addr) (n k m c c2 : Nat) (X Y : List UInt8) : ∀ kq, LastsB tbAl kq (tbF A A2 n k m c c2 X Y kq)
  | 0 => LastsB.val _
  | 1 => LastsB.val _
  | 2 => LastsB.val _
  | 3 => LastsB.val _
  | 4 => LastsB.val _
  | 5 => LastsB.val _
  | 6 => LastsB.val _
  | 7 => LastsB.val _
  | 8 => LastsB.made rfl _ _
  | 9 => LastsB.made rfl _ _
  | 10 => LastsB.stored rfl _
  | _ + 11 => fun _ _ _ _ _ _ _ => trivial
def tcS (t : Nat) : Bool := t == 29 || t == 30 || t == 31 || t == 32
def tcDie (_ : Nat) : Nat := 99
def tcOwn (_ : Nat) : Bool := false
def tcAl (k : Nat) : Bool := k == 0 || k == 1
def tcF (g2 g3 : Nat) (X Y Z : List UInt8) : Nat → Value → World → Prop
  | 0 => fun v _ => v = .slice (some ⟨g2, 0, none⟩) 32 32
  | 1 => fun v _ => v = .slice (some ⟨g3, 0, none⟩) 32 32
  | 2 => Part2 (hp g2 X) (hp g3 Y)
  | 3 => fun v _ => v = (.agg (Z.map bv).toArray)
  | _ => fun _ _ => True
theorem tcF_lasts (g2 g3 : Nat) (X Y Z : List UInt8) : ∀ kq, LastsB tcAl kq (tcF g2 g3 X Y Z kq)
  | 0 => LastsB.val _
  | 1 => LastsB.val _
  | 2 => LastsB.part2 rfl _ _
  | 3 => LastsB.val _
  | _ + 4 => fun _ _ _ _ _ _ _ => trivial

set_option maxRecDepth 100000 in
set_option maxHeartbeats 2000000 in
theorem RRoot_any : ∀ (n : Nat) (A : Option Addr) (ps : List Part) (c : Nat) (w : World), ps.length = n → n ≤ c → n ≤ 500 → (∀ p ∈ ps, p.2.1.length ≤ 1000) → RdP w A ps →
    Calls Tryd.prog 24 #[.slice A n c] w fun e w' => e = .returned (.agg ((rootL (leavesOf ps)).map bv).toArray) ∧ w.grownBy w' none := by
  intro n
  induction n using Nat.strongRecOn with
  | ind n ih =>
  intro A ps c w hn hc h5 hl hr
  by_cases h0 : n = 0
  · subst h0
    obtain rfl := List.length_eq_zero_iff.1 hn
    have htag := fun w' => RTagged_any 2 none [] 0 w' ⟨RdAt.nil, by simp⟩ (by simp [catP]) (by simp)
    obtain ⟨X, hX⟩ : ∃ X, X = tagL 2 (catP []) := ⟨_, rfl⟩
    rw [← hX] at htag
    have HX : Hid (X = rootL (leavesOf [])) := by show _ = _; rw [hX]; exact rootL_0.symm
    have hXl : Hid (X.length = 32) := by rw [hX]; exact tagL_len _ _
    rw [← HX.out]
    clear hX ih
    change ∀ w', Calls Tryd.prog 26 #[.int .u8 2, .slice none 0 0] w' _ at htag
    go_enter Tryd.func24, Tryd.ntmps24
    go_wp2_with (first
      | (go_at_call 26; refine (htag _ ).mono ?_; rintro e w6 ⟨rfl, hg6⟩)
      | (refine wpList_store_row rfl 23 _ _ rfl (w.heap.size) (X.map bv).toArray rfl rfl 23 _ (keep_of (alloc_at rfl) hg6) (hashV_size X hXl.out) (by rw [show (X.map bv).toArray.size = 32 from by rw [List.size_toArray, List.length_map, hXl.out]]; rfl) (bv_all' _) ?_))
    refine bodyPost_ret (results_cell_row rfl _ _ (w.heap.size) 23 (X.map bv).toArray (0, 0) _ rfl (setRow_heap _ _ _ _ _ _ (keep_of (alloc_at rfl) hg6)) Tryd.underlying23 rfl (hashV_size X hXl.out)) rfl ?_
    exact ⟨rfl, grown_setRow (grown_same (grown_alloc (grown_refl _ _) _) hg6) (.inr (by omega)) _⟩
  by_cases h1 : n = 1
  · subst h1
    obtain ⟨p, rfl⟩ := List.length_eq_one_iff.1 hn
    obtain ⟨ad, rfl, hc0, hr0⟩ := hr.get (k := 0) (by simp)
    have hl0 := hl p (by simp)
    obtain ⟨pA, pl, pc⟩ := p
    simp only [List.getElem_cons_zero] at hc0 hr0 hl0
    rw [show ad.add 0 = ad from by unfold Addr.add; split <;> simp_all] at hc0
    have htag := fun A' w' (h3 : RdP w' A' [(pA, pl, pc)]) => RTagged_any 0 A' [(pA, pl, pc)] 1 w' h3 (by simp [catP]; omega) (by simp)
    obtain ⟨X, hX⟩ : ∃ X, X = tagL 0 (catP [(pA, pl, pc)]) := ⟨_, rfl⟩
    rw [← hX] at htag
    have HX : Hid (X = rootL (leavesOf [(pA, pl, pc)])) := by show _ = _; rw [hX, show leavesOf [(pA, pl, pc)] = [pl] from rfl, rootL_1]; simp [catP]
    have hXl : Hid (X.length = 32) := by rw [hX]; exact tagL_len _ _
    rw [← HX.out]
    obtain ⟨m, hm⟩ : ∃ m, m = pl.length := ⟨_, rfl⟩
    rw [← hm] at hc0
    have hpv : Hid (pv (pA, pl, pc) = .slice pA m pc) := by show _ = _; rw [hm]; rfl
    have hc1 : ∀ o, (w.alloc o).cell? ad = some (.slice pA m pc) := fun o => (grown_alloc (grown_refl w none) o).cell hc0 (by simp)
    clear hX hm ih
    change ∀ A' w', RdP w' A' _ → Calls Tryd.prog 26 #[.int .u8 0, .slice A' 1 1] w' _ at htag
    go_enter Tryd.func24, Tryd.ntmps24
    go_wp2_with (first
      | (go_at_call 26; refine (htag _ _ (rdP_kept1 (by rw [hpv.out]; exact rd_row (cs := [_]) (alloc_at (by simp))) ((hr0.alloc _).alloc _))).mono ?_; rintro e w6 ⟨rfl, hg6⟩)
      | (refine wpList_store_row rfl 23 _ _ rfl (w.heap.size) (X.map bv).toArray rfl rfl 23 _ (keep_of (alloc_old (alloc_at rfl)) hg6) (hashV_size X hXl.out) (by rw [show (X.map bv).toArray.size = 32 from by rw [List.size_toArray, List.length_map, hXl.out]]; rfl) (bv_all' _) ?_))
    refine bodyPost_ret (results_cell_row rfl _ _ (w.heap.size) 23 (X.map bv).toArray (0, 0) _ rfl (setRow_heap _ _ _ _ _ _ (keep_of (alloc_old (alloc_at rfl)) hg6)) Tryd.underlying23 rfl (hashV_size X hXl.out)) rfl ?_
    exact ⟨rfl, grown_setRow (grown_same (grown_alloc (grown_alloc (grown_refl _ _) _) _) hg6) (.inr (by omega)) _⟩
  · have h2 : 2 ≤ n := by omega
    have hls := fun w' => half_any n (by omega) (by omega) w'
    have hk1 := halfN_pos n
    have hk2 := halfN_lt h2
    have hro1 := fun w' (hg : w.grownBy w' none) => ih (halfN n) hk2 A (ps.take (halfN n)) c w' (by rw [List.length_take]; omega) (by omega) (by omega) (fun p hp => hl p (List.mem_of_mem_take hp)) ((hr.take _).kept hg)
    have hro2 := fun w' (hg : w.grownBy w' none) => ih (n - halfN n) (by omega) (if c = halfN n then A else A.map (·.add (halfN n))) (ps.drop (halfN n)) (c - halfN n) w' (by rw [List.length_drop]; omega) (by omega) (by omega) (fun p hp => hl p (List.mem_of_mem_drop hp)) ((hr.cut (by omega)).kept hg)
    have hlo := fun w' => sl_loP A n c (halfN n) (by omega) w'
    obtain ⟨X, hX⟩ : ∃ X, X = rootL (leavesOf (ps.take (halfN n))) := ⟨_, rfl⟩
    obtain ⟨Y, hY⟩ : ∃ Y, Y = rootL (leavesOf (ps.drop (halfN n))) := ⟨_, rfl⟩
    have hXl : Hid (X.length = 32) := by rw [hX]; exact rootL_len _
    have hYl : Hid (Y.length = 32) := by rw [hY]; exact rootL_len _
    obtain ⟨Z, hz⟩ : ∃ Z, Z = tagL 1 (X ++ Y) := ⟨_, rfl⟩
    have hZl : Hid (Z.length = 32) := by rw [hz]; exact tagL_len _ _
    have HZ : Hid (rootL (leavesOf ps) = Z) := by
      show _ = _
      rw [rootL_2 (by rw [leavesOf_len]; omega), leavesOf_len, hn, hz, hX, hY, leavesOf_take, leavesOf_drop]
    rw [HZ.out]
    rw [← hX] at hro1
    rw [← hY] at hro2
    clear hX hY HZ ih hr hl
    have hZ := Lib.hid hz
    clear hz
    obtain ⟨A2, hA2⟩ : ∃ A2, A2 = (if c = halfN n then A else A.map (·.add (halfN n))) := ⟨_, rfl⟩
    obtain ⟨m, hm⟩ : ∃ m, m = n - halfN n := ⟨_, rfl⟩
    obtain ⟨c2, hc2⟩ : ∃ c2, c2 = c - halfN n := ⟨_, rfl⟩
    rw [← hA2, ← hm, ← hc2] at hro2 hlo
    clear hA2 hm hc2
    generalize halfN n = k at hls hk1 hk2 hro1 hlo
    have hkc : k ≤ c := by omega
    have e0 : ¬ (n : Int) = 0 := by omega
    have e1 : ¬ (n : Int) = 1 := by omega
    go_enter Tryd.func24, Tryd.ntmps24
    go_upto_region 7 with (go_at_call 41; refine (hls _).mono ?_; rintro e w5 ⟨rfl, rfl⟩)
    generalize hW : World.alloc w _ = W
    have hb2 : W.heap[w.heap.size]? = some (.cells (rowH []) 23 (0, 0)) := by rw [← hW]; exact alloc_at rfl
    have hgW : w.grownBy W none := by rw [← hW]; exact grown_alloc (grown_refl _ _) _
    clear hW
    replace hro1 := fun w' (h : W.grownBy w' none) => hro1 w' (grown_same hgW h)
    replace hro2 := fun w' (h : W.grownBy w' none) => hro2 w' (grown_same hgW h)
    refine wp_region_gb (al := tbAl) 11 (N := 33) (S := tbS) (die := tbDie) (own := tbOwn) (F := tbF A A2 n k m c c2 X Y) (by kernel_rfl) (Nat.le_of_ble_eq_true (by kernel_rfl)) (fun _ => by kernel_rfl) (fun _ => by kernel_rfl) (by kernel_rfl) (by kernel_rfl) (Nat.le_of_ble_eq_true (by kernel_rfl)) (tbF_lasts A A2 n k m c c2 X Y) ?_ ?_
    · intro i o L' a w K hi ho hg hLi hout hpre houter hitem h1 h2 h3
      have hcases : i = 0 ∨ i = 1 ∨ i = 2 ∨ i = 3 ∨ i = 4 ∨ i = 5 ∨ i = 6 ∨ i = 7 ∨ i = 8 ∨ i = 9 ∨ i = 10 := by omega
      rcases hcases with rfl | rfl | rfl | rfl | rfl | rfl | rfl | rfl | rfl | rfl | rfl
      · cases (show some _ = some o from ho)
        exact ⟨rfl, wp_move rfl (h1 ⟨_, rfl⟩ _ _ (grown_refl _ none) (houter _ rfl) (by rw [houter _ rfl]; exact nobl rfl) (by rw [houter _ rfl]; exact FreshB.none rfl))⟩
      · cases (show some _ = some o from ho)
        exact ⟨rfl, wp_move rfl (h1 ⟨_, rfl⟩ _ _ (grown_refl _ none) (houter _ rfl) (by rw [houter _ rfl]; exact nobl rfl) (by rw [houter _ rfl]; exact FreshB.none rfl))⟩
      · cases (show some _ = some o from ho)
        exact ⟨rfl, wp_slice_hi rfl (hitem 0 (by decide) ⟨hpre 0 rfl, hout _ (by decide)⟩) (hitem 1 (by decide) ⟨hpre 1 rfl, hout _ (by decide)⟩) (sl_hiP A n c k hkc _) (h1 ⟨_, rfl⟩ _ _ (grown_refl _ none) rfl (nobl rfl) (FreshB.none rfl))⟩
      · cases (show some _ = some o from ho)
        have x23 : a.eval (.tmp 23) = .slice A k c := hitem 2 (by decide) ⟨hpre 2 rfl, hout _ (by decide)⟩
        refine ⟨rfl, wp_call rfl Tryd.func24 (by kernel_rfl) (by kernel_rfl) (args := #[.slice A k c]) (by simp [x23]) ((hro1 w hg).mono ?_)⟩
        rintro e w' ⟨rfl, hg'⟩
        exact ⟨_, rfl, h1 ⟨_, rfl⟩ _ _ hg' rfl (nobl (blocks_bytes _)) (FreshB.none (blocks_bytes _))⟩
      · cases (show some _ = some o from ho)
        exact ⟨rfl, wp_move rfl (h1 ⟨_, rfl⟩ _ _ (grown_refl _ none) (houter _ rfl) (by rw [houter _ rfl]; exact nobl rfl) (by rw [houter _ rfl]; exact FreshB.none rfl))⟩
      · cases (show some _ = some o from ho)
        exact ⟨rfl, wp_move rfl (h1 ⟨_, rfl⟩ _ _ (grown_refl _ none) (houter _ rfl) (by rw [houter _ rfl]; exact nobl rfl) (by rw [houter _ rfl]; exact FreshB.none rfl))⟩
      · cases (show some _ = some o from ho)
        exact ⟨rfl, wp_slice_lo rfl (hitem 4 (by decide) ⟨hpre 4 rfl, hout _ (by decide)⟩) (hitem 5 (by decide) ⟨hpre 5 rfl, hout _ (by decide)⟩) (hlo _) (h1 ⟨_, rfl⟩ _ _ (grown_refl _ none) rfl (nobl rfl) (FreshB.none rfl))⟩
      · cases (show some _ = some o from ho)
        have x27 : a.eval (.tmp 27) = .slice A2 m c2 := hitem 6 (by decide) ⟨hpre 6 rfl, hout _ (by decide)⟩
        refine ⟨rfl, wp_call rfl Tryd.func24 (by kernel_rfl) (by kernel_rfl) (args := #[.slice A2 m c2]) (by simp [x27]) ((hro2 w hg).mono ?_)⟩
        rintro e w' ⟨rfl, hg'⟩
        exact ⟨_, rfl, h1 ⟨_, rfl⟩ _ _ hg' rfl (nobl (blocks_bytes _)) (FreshB.none (blocks_bytes _))⟩
      · cases (show some _ = some o from ho)
        exact ⟨rfl, wp_alloc rfl (alloc_H _) (h1 ⟨_, rfl⟩ _ _ (grown_alloc (grown_refl _ _) _) ⟨_, rfl, heap_alloc_new _ _⟩ (new_lt _ _) (FreshB.new (new_ge _)))⟩
      · cases (show some _ = some o from ho)
        exact ⟨rfl, wp_alloc rfl (alloc_H _) (h1 ⟨_, rfl⟩ _ _ (grown_alloc (grown_refl _ _) _) ⟨_, rfl, heap_alloc_new _ _⟩ (new_lt _ _) (FreshB.new (new_ge _)))⟩
      · cases (show some _ = some o from ho)
        obtain ⟨b, e1, hb⟩ := hitem 8 (by decide) ⟨hpre 8 rfl, hLi⟩
        have x2 : a.eval (.tmp 24) = .agg (X.map bv).toArray := hitem 3 (by decide) ⟨hpre 3 rfl, hout _ (by decide)⟩
        exact ⟨rfl, wp_store_row 23 _ _ rfl b (X.map bv).toArray e1 x2 23 _ hb (hashV_size _ hXl.out) (by rw [rowH_size _ (by simp), List.size_toArray, List.length_map, hXl.out]) (bv_all' _) (h3 rfl 8 _ _ (some b) (by decide) ⟨hpre 8 rfl, hLi⟩ rfl rfl (grown_setRow (grown_refl _ _) (.inl rfl) _) (fun g e => by cases e; rw [show valB _ a 8 = _ from e1]; exact List.mem_singleton.2 rfl) ⟨b, _, (by rw [show valB _ a 10 = .tuple #[a.eval (.tmp 4), a.eval (.tmp 24)] from rfl, show a.eval (.tmp 4) = _ from e1, x2]), setRow_heap _ _ _ _ _ _ hb⟩ (fun g h => by rw [show valB _ a 10 = .tuple #[a.eval (.tmp 4), a.eval (.tmp 24)] from rfl, show a.eval (.tmp 4) = _ from e1] at h; rw [show valB _ a 8 = _ from e1]; exact h))⟩
    · intro a wT hgT hend hap ha
      obtain ⟨f, hf⟩ : ∃ f : Nat → Value, f = fun t => a.tmps.getD t undef := ⟨_, rfl⟩
      have s24 : f 24 = (.agg (X.map bv).toArray) := by rw [hf]; exact (hend 3 (by decide) (by decide)).1
      have s28 : f 28 = (.agg (Y.map bv).toArray) := by rw [hf]; exact (hend 7 (by decide) (by decide)).1
      obtain ⟨⟨b4, C4, q4, hh4⟩, fr4⟩ := hend 10 (by decide) (by decide)
      have f4 : W.heap.size ≤ b4 := fr4 rfl b4 (by rw [q4]; exact List.mem_singleton.2 rfl)
      have p4 := tuple_two (show Value.tuple #[_, _] = _ from q4)
      have s4 := (congrFun hf 4).trans p4.1
      have v4 : f 24 = .agg C4 := (congrFun hf 24).trans p4.2
      obtain rfl := Value.agg.inj (v4.symm.trans s24)
      clear v4
      obtain ⟨⟨b5, q5, hh5⟩, fr5⟩ := hend 9 (by decide) (by decide)
      have f5 : W.heap.size ≤ b5 := fr5 rfl b5 (by rw [q5]; exact List.mem_singleton.2 rfl)
      have s5 := (congrFun hf 5).trans q5
      have n4_5 : b4 ≠ b5 := fun e => hap 10 9 (by decide) (by decide) (by decide) (by decide) (by decide) rfl b5 (by rw [q5]; exact List.mem_singleton.2 rfl) (by rw [q4, e]; exact List.mem_singleton.2 rfl)
      rw [← hf] at ha
      clear hend hap
      clear hf
      clear q4 p4 fr4 q5 fr5
      subst ha
      simp only [fill, tbS, Nat.reduceAdd, Nat.reduceBEq, Bool.or_false, Bool.or_true, cond_true, cond_false, List.drop_succ_cons, List.drop_zero, s24, s28, s4, s5]
      clear s24 s28 s4 s5
      have hgs : wT.grownBy (wT.setRow b5 (Y.map bv).toArray) (some b5) := grown_setRow (grown_refl _ _) (.inl rfl) _
      have hb3 : (wT.setRow b5 (Y.map bv).toArray).heap[b5]? = some (.cells (Y.map bv).toArray 23 (0, 0)) := setRow_heap _ _ _ _ _ _ hh5
      have hb4 : (wT.setRow b5 (Y.map bv).toArray).heap[b4]? = some (.cells (X.map bv).toArray 23 (0, 0)) := (setRow_other _ _ _ _ n4_5).trans hh4
      have hb1 : (wT.setRow b5 (Y.map bv).toArray).heap[w.heap.size]? = some (.cells (rowH []) 23 (0, 0)) := (setRow_other _ _ _ _ (by have := lt_of_heap hb2; omega)).trans (keep_of hb2 hgT)
      have hgB : w.grownBy (wT.setRow b5 (Y.map bv).toArray) none := grown_same hgW (grown_trans hgT hgs (.inr fun g e => by cases e; exact f5))
      clear hgs hb2 hgW hro1 hro2
      go_upto_region 8 with (refine wpList_store_row rfl 23 _ _ rfl b5 (Y.map bv).toArray rfl rfl 23 _ hh5 (hashV_size Y hYl.out) (by rw [show (Y.map bv).toArray.size = 32 from by rw [List.size_toArray, List.length_map, hYl.out]]; rfl) (bv_all' _) ?_; generalize wT.setRow b5 _ = V at hb1 hb3 hb4 hgB ⊢)
      have hgW := hgB
      have hb2 := hb4
      clear hgB hb4
      refine wp_region_gb (al := tcAl) 4 (N := 33) (S := tcS) (die := tcDie) (own := tcOwn) (F := tcF b4 b5 X Y Z) (by kernel_rfl) (Nat.le_of_ble_eq_true (by kernel_rfl)) (fun _ => by kernel_rfl) (fun _ => by kernel_rfl) (by kernel_rfl) (by kernel_rfl) (Nat.le_of_ble_eq_true (by kernel_rfl)) (tcF_lasts b4 b5 X Y Z) ?_ ?_
      · intro i o L' a w K hi ho hg hLi hout hpre houter hitem h1 h2 h3
        have hcases : i = 0 ∨ i = 1 ∨ i = 2 ∨ i = 3 := by omega
        rcases hcases with rfl | rfl | rfl | rfl
        · cases (show some _ = some o from ho)
          exact ⟨rfl, wp_slice_all rfl (houter 4 rfl) (sl_arr _ _ _) (h1 ⟨_, rfl⟩ _ _ (grown_refl _ none) rfl (nobl rfl) (FreshB.none rfl))⟩
        · cases (show some _ = some o from ho)
          exact ⟨rfl, wp_slice_all rfl (houter 5 rfl) (sl_arr _ _ _) (h1 ⟨_, rfl⟩ _ _ (grown_refl _ none) rfl (nobl rfl) (FreshB.none rfl))⟩
        · cases (show some _ = some o from ho)
          exact ⟨rfl, wp_lit2 rfl ((show a.eval (.tmp 29) = .slice (some ⟨b4, 0, none⟩) 32 32 from hitem 0 (by decide) ⟨hpre 0 rfl, hout _ (by decide)⟩).trans (pv_hp hXl.out)) ((show a.eval (.tmp 30) = .slice (some ⟨b5, 0, none⟩) 32 32 from hitem 1 (by decide) ⟨hpre 1 rfl, hout _ (by decide)⟩).trans (pv_hp hYl.out)) (lit_p2 _ _ _) (h1 ⟨_, rfl⟩ _ _ (grown_alloc (grown_refl _ _) _) ⟨_, rfl, rd_row (cs := [_, _]) (heap_alloc_new _ _)⟩ (new_lt _ _) (FreshB.new (new_ge _)))⟩
        · cases (show some _ = some o from ho)
          obtain ⟨b, e1, h4⟩ := hitem 2 (by decide) ⟨hpre 2 rfl, hout _ (by decide)⟩
          exact ⟨rfl, wp_rtag (t := 1) (ps := [hp b4 X, hp b5 Y]) (l := X ++ Y) rfl rfl e1 (rd_hp2 h4 (keep_of hb2 hg) (keep_of hb3 hg)) rfl (cat_hp2 _ _ _ _) (by rw [List.length_append, hXl.out, hYl.out]; omega) (by simp) (fun w' hg' => by rw [← hZ.out]; exact h1 ⟨_, rfl⟩ _ _ hg' rfl (nobl (blocks_bytes _)) (FreshB.none (blocks_bytes _)))⟩
      · intro a wT hgT hend hap ha
        obtain ⟨f, hf⟩ : ∃ f : Nat → Value, f = fun t => a.tmps.getD t undef := ⟨_, rfl⟩
        have s32 : f 32 = (.agg (Z.map bv).toArray) := by rw [hf]; exact (hend 3 (by decide) (by decide)).1
        rw [← hf] at ha
        clear hend hap
        clear hf
        subst ha
        simp only [Act.put, fill, tcS, Nat.reduceAdd, Nat.reduceBEq, Bool.or_false, Bool.or_true, cond_true, cond_false, List.drop_succ_cons, List.drop_zero, s32]
        clear s32
        replace hb2 := keep_of hb1 hgT
        go_wp2_with (refine wpList_store_row rfl 23 _ _ rfl (w.heap.size) (Z.map bv).toArray rfl rfl 23 _ (hb2) (hashV_size Z hZl.out) (by rw [show (Z.map bv).toArray.size = 32 from by rw [List.size_toArray, List.length_map, hZl.out]]; rfl) (bv_all' _) ?_)
        refine bodyPost_ret (results_cell_row rfl _ _ (w.heap.size) 23 (Z.map bv).toArray (0, 0) _ rfl (setRow_heap _ _ _ _ _ _ (hb2)) Tryd.underlying23 rfl (hashV_size Z hZl.out)) rfl ?_
        exact ⟨rfl, grown_setRow (grown_same hgW hgT) (.inr (by omega)) _⟩
end Go.Proofs.YtmfnncfiaaeknaaDoor
