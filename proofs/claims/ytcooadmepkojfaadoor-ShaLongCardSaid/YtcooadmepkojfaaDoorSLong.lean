/- The law on long texts: its contract. -/
import Derived.Test.YtcooadmepkojfaaDoorOpsG
namespace Go.Proofs.YtcooadmepkojfaaDoor
open Go.RowKit

def glS (t : Nat) : Bool := (decide (25 ≤ t) && decide (t ≤ 66)) || t == 4
def glDie (k : Nat) : Nat := if k = 5 then 7 else if k = 7 then 9 else if k = 11 then 13 else if k = 13 then 15 else 99
def glOwn (k : Nat) : Bool := k == 5 || k == 7 || k == 8 || k == 9 || k == 11 || k == 13 || k == 14 || k == 15 || k == 22 || k == 26
def glF (t : UInt8) (l : List UInt8) (A6 : Option Addr) (c6 : Nat) (m : Int) : Nat → Value → World → Prop
  | 0 => fun v _ => v = (.agg ((sumL l).map bv).toArray)
  | 1 => fun v _ => v = (.slice A6 l.length c6)
  | 2 => fun v _ => v = (.agg ((sumL (l)).map bv).toArray)
  | 3 => fun v _ => v = .bool true
  | 4 => fun v _ => v = .bool true
  | 5 => fun v w => OwnB w v ([])
  | 6 => fun v _ => v = (.slice A6 l.length c6)
  | 7 => fun v w => OwnB w v (([]) ++ (l))
  | 8 => fun v w => OwnB w v ([0])
  | 9 => fun v w => OwnB w v (([] ++ l) ++ ([0]))
  | 10 => fun v _ => v = (.agg ((sumL ([] ++ l ++ [0])).map bv).toArray)
  | 11 => fun v w => OwnB w v ([])
  | 12 => fun v _ => v = (.slice A6 l.length c6)
  | 13 => fun v w => OwnB w v (([]) ++ (l))
  | 14 => fun v w => OwnB w v ([0])
  | 15 => fun v w => OwnB w v (([] ++ l) ++ ([0]))
  | 16 => fun v _ => v = (.agg ((sumL ([] ++ l ++ [0])).map bv).toArray)
  | 17 => fun v _ => v = .bool true
  | 18 => fun v _ => v = .bool true
  | 19 => fun v _ => v = .bool true
  | 20 => fun v _ => v = (.int .u8 (t.toNat : Int))
  | 21 => fun v _ => v = (.slice A6 l.length c6)
  | 22 => fun v w => ∃ A' c', v = .slice A' 3 c' ∧ RdAt w A' ([pv ((none, [], 0) : Part), pv ((A6, l, c6) : Part), pv ((none, [], 0) : Part)])
  | 23 => fun v _ => v = (.agg ((tagL t (l)).map bv).toArray)
  | 24 => fun v _ => v = (.int .u8 (t.toNat : Int))
  | 25 => fun v _ => v = (.slice A6 l.length c6)
  | 26 => fun v w => ∃ A' c', v = .slice A' 1 c' ∧ RdAt w A' ([pv ((A6, l, c6) : Part)])
  | 27 => fun v _ => v = (.agg ((tagL t (l)).map bv).toArray)
  | 28 => fun v _ => v = .bool true
  | 29 => fun v _ => v = .bool true
  | 30 => fun v _ => v = .bool true
  | 31 => fun v _ => v = (.int .i64 m)
  | 32 => fun v _ => v = (.int .i64 (m + 64))
  | 33 => fun v _ => v = (.int .i64 (((m + 64) + 8) / 64 + 1))
  | 34 => fun v _ => v = (.int .i64 m)
  | 35 => fun v _ => v = (.int .i64 (((m) + 8) / 64 + 1))
  | 36 => fun v _ => v = (.int .i64 ((m + 8) / 64 + 1 + 1))
  | 37 => fun v _ => v = .bool true
  | 38 => fun v _ => v = .bool true
  | 39 => fun v _ => v = .bool true
  | 40 => fun v _ => v = .bool true
  | 41 => fun v _ => v = .bool true
  | 42 => fun v _ => v = .bool true
  | _ => fun _ _ => True
theorem glF_lasts (t : UInt8) (l : List UInt8) (A6 : Option Addr) (c6 : Nat) (m : Int) : ∀ k, Lasts (glF t l A6 c6 m k)
  | 0 => lasts_val _
  | 1 => lasts_val _
  | 2 => lasts_val _
  | 3 => lasts_val _
  | 4 => lasts_val _
  | 5 => lasts_own _
  | 6 => lasts_val _
  | 7 => lasts_own _
  | 8 => lasts_own _
  | 9 => lasts_own _
  | 10 => lasts_val _
  | 11 => lasts_own _
  | 12 => lasts_val _
  | 13 => lasts_own _
  | 14 => lasts_own _
  | 15 => lasts_own _
  | 16 => lasts_val _
  | 17 => lasts_val _
  | 18 => lasts_val _
  | 19 => lasts_val _
  | 20 => lasts_val _
  | 21 => lasts_val _
  | 22 => lasts_rd _ _
  | 23 => lasts_val _
  | 24 => lasts_val _
  | 25 => lasts_val _
  | 26 => lasts_rd _ _
  | 27 => lasts_val _
  | 28 => lasts_val _
  | 29 => lasts_val _
  | 30 => lasts_val _
  | 31 => lasts_val _
  | 32 => lasts_val _
  | 33 => lasts_val _
  | 34 => lasts_val _
  | 35 => lasts_val _
  | 36 => lasts_val _
  | 37 => lasts_val _
  | 38 => lasts_val _
  | 39 => lasts_val _
  | 40 => lasts_val _
  | 41 => lasts_val _
  | 42 => lasts_val _
  | _ + 43 => fun _ _ _ _ _ _ _ => trivial

set_option maxRecDepth 100000 in
set_option maxHeartbeats 1500000 in
theorem ShaLong_any (n : Int) (t : UInt8) (w : World) (hk : LaidK w) (hs : LaidS w) :
    Calls Tryd.prog 5 #[.int .i64 n, .int .u8 (t.toNat : Int)] w fun e w' => e = .returned (.bool true) ∧ w.grownBy w' none := by
  obtain ⟨k, hk260, hK⟩ := Within_nat n 260 (by omega)
  go_enter Tryd.func5, Tryd.ntmps5
  go_wp2_with (go_at_call 10; refine (hK _).mono ?_; rintro e w1 ⟨rfl, rfl⟩)
  go_loopw [6, 12] (fun x i wr => ∃ (j : Nat) (l : List UInt8), j ≤ k ∧ i = .int .i64 j ∧ l.length = j ∧ OwnB wr x l ∧ Grew w wr (.slice none 0 0) x) (fun _ i _ => k - (intOf i).toNat)
  case atStart => exact ⟨0, [], by omega, rfl, rfl, OwnB.nil _, Grew.refl _ _⟩
  case round =>
    obtain ⟨j, l, hj, rfl, hlj, ho, hgr⟩ := hrel
    by_cases hlt : j < k
    · have hv : ((t.toNat : Int) + (j : Int) % 256) % 256 = ((UInt8.ofNat (t.toNat + j)).toNat : Int) := by
        rw [UInt8.toNat_ofNat']; omega
      obtain ⟨y, hy⟩ : ∃ y, y = UInt8.ofNat (t.toNat + j) := ⟨_, rfl⟩
      rw [← hy] at hv
      have HL := Lib.hid hlj
      clear hy hlj
      go_wp2_with (at_builtin; refine wpList_appB (v := u6) _ rfl _ _ rfl rfl (ho.alloc _) (news := [y]) rfl rfl (rdB_new _ _ _ _ rfl) (by have := HL.out; rw [List.length_singleton]; omega) ?_; intro v6 w6 ho6 hgr6)
      go_roundw
      case rel => exact ⟨j + 1, l ++ [y], by omega, by go_num, by rw [List.length_append, HL.out]; rfl, ho6, hgr.trans (Grew.pre (grown_alloc (grown_refl _ _) _) hgr6)⟩
      case measure => simp [intOf]; omega
    · have hjk : j = k := by omega
      subst hjk
      obtain ⟨A6, c6, rfl, hc6, hm6, hr6⟩ := ho.slice
      have hgn := hgr.nil
      have HL := Lib.hid hlj
      have hl260 : l.length ≤ 260 := by omega
      have hsum := fun w' (h1 : LaidK w') (h2 : LaidS w') (h3 : RdB w' A6 l) => Sum_any A6 l c6 w' h1 h2 h3 hc6 hm6 (by omega)
      obtain ⟨X, hX⟩ : ∃ X, X = sumL l := ⟨_, rfl⟩
      rw [← hX] at hsum
      have HX := Lib.hid hX
      have hXl : Hid (X.length = 32) := by rw [hX]; exact sumL_len _
      have HS : Hid ((Tryd.prog.info? 23).map (·.size) = some (X.map bv).toArray.size) := by rw [List.size_toArray, List.length_map, hXl.out]; exact size_hash
      clear hX hlj
      go_wp2_with (first
        | (go_at_call 8; refine (hsum _ (hk.kept hgn) (hs.kept hgn) hr6).mono ?_; rintro e w6 ⟨rfl, hg6⟩)
        | (refine wpList_store_row rfl 23 _ _ rfl w6.heap.size (X.map bv).toArray rfl rfl 23 (rowH []) (heap_alloc_new _ _) HS.out (by rw [rowH_size _ (by simp), List.size_toArray, List.length_map, hXl.out]) (bv_all' _) ?_; generalize hw7 : World.setRow _ _ _ = w7; have HW7 := Lib.hid hw7; clear hw7))
      have hg7 : w6.grownBy w7 none := by
        rw [← HW7.out]
        exact grown_setRow (grown_alloc (grown_refl _ _) _) (.inr (Nat.le_refl _)) _
      have hgW : w.grownBy w7 none := grown_same (grown_same hgn hg6) hg7
      have hX7 : w7.heap[w6.heap.size]? = some (.cells ((sumL l).map bv).toArray 23 (0, 0)) := by
        rw [← HW7.out, ← HX.out]
        exact setRow_heap _ _ _ _ _ _ (heap_alloc_new _ _)
      have hheap : ∀ {w' : World}, w7.grownBy w' none → w'.heap[w6.heap.size]? = some (.cells ((sumL l).map bv).toArray 23 (0, 0)) := fun h => keep_of hX7 h
      have h6lt := ho.lt
      replace hr6 : RdB w7 A6 l := (hr6.kept hg6).kept hg7
      replace hk := hk.kept hgW
      replace hs := hs.kept hgW
      have hlt6 : ∀ g, (Value.slice A6 l.length c6).ownBlock = some g → g < w7.heap.size := fun g e => Nat.lt_of_lt_of_le (h6lt g e) (Nat.le_trans hg6.size hg7.size)
      have hin1 : ∀ p ∈ [((A6, l, c6) : Part)], RdB w7 p.1 p.2.1 := by
        intro p hp
        rw [List.mem_singleton] at hp
        subst hp
        exact hr6
      have hin3 : ∀ p ∈ [((none, [], 0) : Part), ((A6, l, c6) : Part), ((none, [], 0) : Part)], RdB w7 p.1 p.2.1 := by
        intro p hp
        simp only [List.mem_cons, List.not_mem_nil, or_false] at hp
        rcases hp with rfl | rfl | rfl
        · exact RdAt.nil
        · exact hr6
        · exact RdAt.nil
      clear h6lt hX7 HW7 hsum hgr ho
      have hXe := HX.out
      rw [hXe]
      clear hXe HX HS hXl
      go_wp2
      refine wp_region_go2 (N := 67) (S := glS) (die := glDie) (own := glOwn) (F := glF t l A6 c6 (j : Int)) (by kernel_rfl) (by kernel_rfl) (Nat.le_of_ble_eq_true (by kernel_rfl)) (glF_lasts t l A6 c6 (j : Int)) ?_ ?_
      · intro i o L' a w K hi ho hg hLi hout hpre houter hitem h1 h2
        have hcases : i = 0 ∨ i = 1 ∨ i = 2 ∨ i = 3 ∨ i = 4 ∨ i = 5 ∨ i = 6 ∨ i = 7 ∨ i = 8 ∨ i = 9 ∨ i = 10 ∨ i = 11 ∨ i = 12 ∨ i = 13 ∨ i = 14 ∨ i = 15 ∨ i = 16 ∨ i = 17 ∨ i = 18 ∨ i = 19 ∨ i = 20 ∨ i = 21 ∨ i = 22 ∨ i = 23 ∨ i = 24 ∨ i = 25 ∨ i = 26 ∨ i = 27 ∨ i = 28 ∨ i = 29 ∨ i = 30 ∨ i = 31 ∨ i = 32 ∨ i = 33 ∨ i = 34 ∨ i = 35 ∨ i = 36 ∨ i = 37 ∨ i = 38 ∨ i = 39 ∨ i = 40 ∨ i = 41 ∨ i = 42 := by
          have : i < 43 := hi
          omega
        rcases hcases with rfl | rfl | rfl | rfl | rfl | rfl | rfl | rfl | rfl | rfl | rfl | rfl | rfl | rfl | rfl | rfl | rfl | rfl | rfl | rfl | rfl | rfl | rfl | rfl | rfl | rfl | rfl | rfl | rfl | rfl | rfl | rfl | rfl | rfl | rfl | rfl | rfl | rfl | rfl | rfl | rfl | rfl | rfl
        · cases (show some _ = some o from ho)
          exact ⟨rfl, wp_loadH rfl (houter _ rfl) (sumL_len _) (hheap hg) (h1 _ _ (grown_refl _ none) rfl (fun g e => by cases e) (.inl rfl))⟩
        · cases (show some _ = some o from ho)
          refine ⟨rfl, wp_move rfl (h1 _ _ (grown_refl _ none) (houter _ rfl) ?_ ?_)⟩
          · rw [houter _ rfl]; exact fun g e => Nat.lt_of_lt_of_le (hlt6 g e) hg.size
          · rw [houter _ rfl]; exact Fresh.old rfl hlt6
        · cases (show some _ = some o from ho)
          exact ⟨rfl, wp_rsum rfl (hitem 1 (by decide) ⟨hpre 1 rfl, hout _ (by decide)⟩) (hr6.kept hg) rfl (by omega) (fun w' hg' => h1 _ _ hg' rfl (fun g e => by cases e) (.inl rfl))⟩
        · cases (show some _ = some o from ho)
          exact ⟨rfl, wp_bin rfl (hitem 0 (by decide) ⟨hpre 0 rfl, hout _ (by decide)⟩) (hitem 2 (by decide) ⟨hpre 2 rfl, hout _ (by decide)⟩) (guard_hash _ _ _ _ _) (eqlH_true (sumL l) (sumL_len _) _) (h1 _ _ (grown_refl _ none) rfl (fun g e => by cases e) (.inl rfl))⟩
        · cases (show some _ = some o from ho)
          have hx := hitem 3 (by decide) ⟨hpre 3 rfl, hout _ (by decide)⟩
          exact ⟨rfl, wp_move rfl (h1 _ _ (grown_refl _ none) hx (lt_bool hx) (Fresh.bool hx))⟩
        · cases (show some _ = some o from ho)
          exact ⟨wanted_of (j := 4) rfl rfl (hitem 4 (by decide) ⟨hpre 4 rfl, hout _ (by decide)⟩), wp_lit0 rfl (lit_none _) (h1 _ _ (grown_alloc (grown_refl _ _) _) (ownB_new _ #[] [] 0 rfl rfl (Nat.zero_le _)) (lt_new _ _) Fresh.lit)⟩
        · cases (show some _ = some o from ho)
          refine ⟨wanted_of (j := 4) rfl rfl (hitem 4 (by decide) ⟨hpre 4 rfl, hout _ (by decide)⟩), wp_move rfl (h1 _ _ (grown_refl _ none) (houter _ rfl) ?_ ?_)⟩
          · rw [houter _ rfl]; exact fun g e => Nat.lt_of_lt_of_le (hlt6 g e) hg.size
          · rw [houter _ rfl]; exact Fresh.old rfl hlt6
        · cases (show some _ = some o from ho)
          exact ⟨wanted_of (j := 4) rfl rfl (hitem 4 (by decide) ⟨hpre 4 rfl, hout _ (by decide)⟩), wp_appB rfl rfl (hitem 5 (by decide) ⟨hpre 5 rfl, hLi⟩) (hitem 6 (by decide) ⟨hpre 6 rfl, hout _ (by decide)⟩) rfl (hr6.kept hg) (by simp; omega) fun v w' hv hw => h2 5 v w' (by decide) ⟨hpre 5 rfl, hLi⟩ rfl rfl hw.1 hv (fun g e => hv.lt _ e) (Fresh.ofGrew hw)⟩
        · cases (show some _ = some o from ho)
          exact ⟨wanted_of (j := 4) rfl rfl (hitem 4 (by decide) ⟨hpre 4 rfl, hout _ (by decide)⟩), wp_lit1 rfl rfl (lit_b1 0 _) (h1 _ _ (grown_alloc (grown_refl _ _) _) (ownB_new _ _ [0] 1 rfl rfl (by unfold maxLen; omega)) (lt_new _ _) Fresh.lit)⟩
        · cases (show some _ = some o from ho)
          obtain ⟨A, c, hx, q1, q2, hr⟩ := OwnB.slice (hitem 8 (by decide) ⟨hpre 8 rfl, hout _ (by decide)⟩)
          exact ⟨wanted_of (j := 4) rfl rfl (hitem 4 (by decide) ⟨hpre 4 rfl, hout _ (by decide)⟩), wp_appB rfl rfl (hitem 7 (by decide) ⟨hpre 7 rfl, hLi⟩) hx rfl hr (by simp; omega) fun v w' hv hw => h2 7 v w' (by decide) ⟨hpre 7 rfl, hLi⟩ rfl rfl hw.1 hv (fun g e => hv.lt _ e) (Fresh.ofGrew hw)⟩
        · cases (show some _ = some o from ho)
          obtain ⟨A, c, hx, q1, q2, hr⟩ := OwnB.slice (hitem 9 (by decide) ⟨hpre 9 rfl, hout _ (by decide)⟩)
          exact ⟨wanted_of (j := 4) rfl rfl (hitem 4 (by decide) ⟨hpre 4 rfl, hout _ (by decide)⟩), wp_sum rfl hx hr rfl q1 q2 (hk.kept hg) (hs.kept hg) (by simp; omega) (fun w' hg' => h1 _ _ hg' rfl (fun g e => by cases e) (.inl rfl))⟩
        · cases (show some _ = some o from ho)
          exact ⟨wanted_of (j := 4) rfl rfl (hitem 4 (by decide) ⟨hpre 4 rfl, hout _ (by decide)⟩), wp_lit0 rfl (lit_none _) (h1 _ _ (grown_alloc (grown_refl _ _) _) (ownB_new _ #[] [] 0 rfl rfl (Nat.zero_le _)) (lt_new _ _) Fresh.lit)⟩
        · cases (show some _ = some o from ho)
          refine ⟨wanted_of (j := 4) rfl rfl (hitem 4 (by decide) ⟨hpre 4 rfl, hout _ (by decide)⟩), wp_move rfl (h1 _ _ (grown_refl _ none) (houter _ rfl) ?_ ?_)⟩
          · rw [houter _ rfl]; exact fun g e => Nat.lt_of_lt_of_le (hlt6 g e) hg.size
          · rw [houter _ rfl]; exact Fresh.old rfl hlt6
        · cases (show some _ = some o from ho)
          exact ⟨wanted_of (j := 4) rfl rfl (hitem 4 (by decide) ⟨hpre 4 rfl, hout _ (by decide)⟩), wp_appB rfl rfl (hitem 11 (by decide) ⟨hpre 11 rfl, hLi⟩) (hitem 12 (by decide) ⟨hpre 12 rfl, hout _ (by decide)⟩) rfl (hr6.kept hg) (by simp; omega) fun v w' hv hw => h2 11 v w' (by decide) ⟨hpre 11 rfl, hLi⟩ rfl rfl hw.1 hv (fun g e => hv.lt _ e) (Fresh.ofGrew hw)⟩
        · cases (show some _ = some o from ho)
          exact ⟨wanted_of (j := 4) rfl rfl (hitem 4 (by decide) ⟨hpre 4 rfl, hout _ (by decide)⟩), wp_lit1 rfl rfl (lit_b1 0 _) (h1 _ _ (grown_alloc (grown_refl _ _) _) (ownB_new _ _ [0] 1 rfl rfl (by unfold maxLen; omega)) (lt_new _ _) Fresh.lit)⟩
        · cases (show some _ = some o from ho)
          obtain ⟨A, c, hx, q1, q2, hr⟩ := OwnB.slice (hitem 14 (by decide) ⟨hpre 14 rfl, hout _ (by decide)⟩)
          exact ⟨wanted_of (j := 4) rfl rfl (hitem 4 (by decide) ⟨hpre 4 rfl, hout _ (by decide)⟩), wp_appB rfl rfl (hitem 13 (by decide) ⟨hpre 13 rfl, hLi⟩) hx rfl hr (by simp; omega) fun v w' hv hw => h2 13 v w' (by decide) ⟨hpre 13 rfl, hLi⟩ rfl rfl hw.1 hv (fun g e => hv.lt _ e) (Fresh.ofGrew hw)⟩
        · cases (show some _ = some o from ho)
          obtain ⟨A, c, hx, q1, q2, hr⟩ := OwnB.slice (hitem 15 (by decide) ⟨hpre 15 rfl, hout _ (by decide)⟩)
          exact ⟨wanted_of (j := 4) rfl rfl (hitem 4 (by decide) ⟨hpre 4 rfl, hout _ (by decide)⟩), wp_rsum rfl hx hr rfl (by simp; omega) (fun w' hg' => h1 _ _ hg' rfl (fun g e => by cases e) (.inl rfl))⟩
        · cases (show some _ = some o from ho)
          exact ⟨wanted_of (j := 4) rfl rfl (hitem 4 (by decide) ⟨hpre 4 rfl, hout _ (by decide)⟩), wp_bin rfl (hitem 10 (by decide) ⟨hpre 10 rfl, hout _ (by decide)⟩) (hitem 16 (by decide) ⟨hpre 16 rfl, hout _ (by decide)⟩) (guard_hash _ _ _ _ _) (eqlH_true (sumL ([] ++ l ++ [0])) (sumL_len _) _) (h1 _ _ (grown_refl _ none) rfl (fun g e => by cases e) (.inl rfl))⟩
        · cases (show some _ = some o from ho)
          have hc := hitem 4 (by decide) ⟨hpre 4 rfl, hout _ (by decide)⟩
          have hx := hitem 17 (by decide) ⟨hpre 17 rfl, hout _ (by decide)⟩
          exact ⟨rfl, wp_pick rfl hc (h1 _ _ (grown_refl _ none) hx (lt_bool hx) (Fresh.bool hx))⟩
        · cases (show some _ = some o from ho)
          have hx := hitem 18 (by decide) ⟨hpre 18 rfl, hout _ (by decide)⟩
          exact ⟨rfl, wp_move rfl (h1 _ _ (grown_refl _ none) hx (lt_bool hx) (Fresh.bool hx))⟩
        · cases (show some _ = some o from ho)
          exact ⟨wanted_of (j := 19) rfl rfl (hitem 19 (by decide) ⟨hpre 19 rfl, hout _ (by decide)⟩), wp_move rfl (h1 _ _ (grown_refl _ none) (houter _ rfl) (lt_val (houter _ rfl) rfl) (Fresh.val (houter _ rfl) rfl))⟩
        · cases (show some _ = some o from ho)
          refine ⟨wanted_of (j := 19) rfl rfl (hitem 19 (by decide) ⟨hpre 19 rfl, hout _ (by decide)⟩), wp_move rfl (h1 _ _ (grown_refl _ none) (houter _ rfl) ?_ ?_)⟩
          · rw [houter _ rfl]; exact fun g e => Nat.lt_of_lt_of_le (hlt6 g e) hg.size
          · rw [houter _ rfl]; exact Fresh.old rfl hlt6
        · cases (show some _ = some o from ho)
          exact ⟨wanted_of (j := 19) rfl rfl (hitem 19 (by decide) ⟨hpre 19 rfl, hout _ (by decide)⟩), wp_lit3 rfl rfl (hitem 21 (by decide) ⟨hpre 21 rfl, hout _ (by decide)⟩) rfl (lit_p3 ((none, [], 0) : Part) ((A6, l, c6) : Part) ((none, [], 0) : Part) _) (h1 _ _ (grown_alloc (grown_refl _ _) _) (rd_lit _ [pv ((none, [], 0) : Part), pv ((A6, l, c6) : Part), pv ((none, [], 0) : Part)] 3 _ rfl) (lt_new _ _) Fresh.lit)⟩
        · cases (show some _ = some o from ho)
          obtain ⟨A, c, hx, hr⟩ := hitem 22 (by decide) ⟨hpre 22 rfl, hout _ (by decide)⟩
          exact ⟨wanted_of (j := 19) rfl rfl (hitem 19 (by decide) ⟨hpre 19 rfl, hout _ (by decide)⟩), wp_tag (ps := [((none, [], 0) : Part), ((A6, l, c6) : Part), ((none, [], 0) : Part)]) (l := l) rfl (hitem 20 (by decide) ⟨hpre 20 rfl, hout _ (by decide)⟩) hx ⟨hr, fun p hp => (hin3 p hp).kept hg⟩ rfl (by simp [catP])  (hk.kept hg) (hs.kept hg) (by omega) (Nat.le_of_ble_eq_true rfl) (fun w' hg' => h1 _ _ hg' rfl (fun g e => by cases e) (.inl rfl))⟩
        · cases (show some _ = some o from ho)
          exact ⟨wanted_of (j := 19) rfl rfl (hitem 19 (by decide) ⟨hpre 19 rfl, hout _ (by decide)⟩), wp_move rfl (h1 _ _ (grown_refl _ none) (houter _ rfl) (lt_val (houter _ rfl) rfl) (Fresh.val (houter _ rfl) rfl))⟩
        · cases (show some _ = some o from ho)
          refine ⟨wanted_of (j := 19) rfl rfl (hitem 19 (by decide) ⟨hpre 19 rfl, hout _ (by decide)⟩), wp_move rfl (h1 _ _ (grown_refl _ none) (houter _ rfl) ?_ ?_)⟩
          · rw [houter _ rfl]; exact fun g e => Nat.lt_of_lt_of_le (hlt6 g e) hg.size
          · rw [houter _ rfl]; exact Fresh.old rfl hlt6
        · cases (show some _ = some o from ho)
          exact ⟨wanted_of (j := 19) rfl rfl (hitem 19 (by decide) ⟨hpre 19 rfl, hout _ (by decide)⟩), wp_lit1 rfl (hitem 25 (by decide) ⟨hpre 25 rfl, hout _ (by decide)⟩) (lit_p1 ((A6, l, c6) : Part) _) (h1 _ _ (grown_alloc (grown_refl _ _) _) (rd_lit _ [pv ((A6, l, c6) : Part)] 1 _ rfl) (lt_new _ _) Fresh.lit)⟩
        · cases (show some _ = some o from ho)
          obtain ⟨A, c, hx, hr⟩ := hitem 26 (by decide) ⟨hpre 26 rfl, hout _ (by decide)⟩
          exact ⟨wanted_of (j := 19) rfl rfl (hitem 19 (by decide) ⟨hpre 19 rfl, hout _ (by decide)⟩), wp_tag (ps := [((A6, l, c6) : Part)]) (l := l) rfl (hitem 24 (by decide) ⟨hpre 24 rfl, hout _ (by decide)⟩) hx ⟨hr, fun p hp => (hin1 p hp).kept hg⟩ rfl (by simp [catP])  (hk.kept hg) (hs.kept hg) (by omega) (Nat.le_of_ble_eq_true rfl) (fun w' hg' => h1 _ _ hg' rfl (fun g e => by cases e) (.inl rfl))⟩
        · cases (show some _ = some o from ho)
          exact ⟨wanted_of (j := 19) rfl rfl (hitem 19 (by decide) ⟨hpre 19 rfl, hout _ (by decide)⟩), wp_bin rfl (hitem 23 (by decide) ⟨hpre 23 rfl, hout _ (by decide)⟩) (hitem 27 (by decide) ⟨hpre 27 rfl, hout _ (by decide)⟩) (guard_hash _ _ _ _ _) (eqlH_true (tagL t l) (sumL_len _) _) (h1 _ _ (grown_refl _ none) rfl (fun g e => by cases e) (.inl rfl))⟩
        · cases (show some _ = some o from ho)
          have hc := hitem 19 (by decide) ⟨hpre 19 rfl, hout _ (by decide)⟩
          have hx := hitem 28 (by decide) ⟨hpre 28 rfl, hout _ (by decide)⟩
          exact ⟨rfl, wp_pick rfl hc (h1 _ _ (grown_refl _ none) hx (lt_bool hx) (Fresh.bool hx))⟩
        · cases (show some _ = some o from ho)
          have hx := hitem 29 (by decide) ⟨hpre 29 rfl, hout _ (by decide)⟩
          exact ⟨rfl, wp_move rfl (h1 _ _ (grown_refl _ none) hx (lt_bool hx) (Fresh.bool hx))⟩
        · cases (show some _ = some o from ho)
          exact ⟨wanted_of (j := 30) rfl rfl (hitem 30 (by decide) ⟨hpre 30 rfl, hout _ (by decide)⟩), wp_move rfl (h1 _ _ (grown_refl _ none) (houter _ rfl) (lt_val (houter _ rfl) rfl) (Fresh.val (houter _ rfl) rfl))⟩
        · cases (show some _ = some o from ho)
          exact ⟨wanted_of (j := 30) rfl rfl (hitem 30 (by decide) ⟨hpre 30 rfl, hout _ (by decide)⟩), wp_bin rfl (hitem 31 (by decide) ⟨hpre 31 rfl, hout _ (by decide)⟩) rfl (guard_add _ _ _ _ _) (add_i64 _ _ _ (by omega)) (h1 _ _ (grown_refl _ none) rfl (fun g e => by cases e) (.inl rfl))⟩
        · cases (show some _ = some o from ho)
          exact ⟨wanted_of (j := 30) rfl rfl (hitem 30 (by decide) ⟨hpre 30 rfl, hout _ (by decide)⟩), wp_blocks rfl (hitem 32 (by decide) ⟨hpre 32 rfl, hout _ (by decide)⟩) (by omega) (h1 _ _ (grown_refl _ none) rfl (fun g e => by cases e) (.inl rfl))⟩
        · cases (show some _ = some o from ho)
          exact ⟨wanted_of (j := 30) rfl rfl (hitem 30 (by decide) ⟨hpre 30 rfl, hout _ (by decide)⟩), wp_move rfl (h1 _ _ (grown_refl _ none) (houter _ rfl) (lt_val (houter _ rfl) rfl) (Fresh.val (houter _ rfl) rfl))⟩
        · cases (show some _ = some o from ho)
          exact ⟨wanted_of (j := 30) rfl rfl (hitem 30 (by decide) ⟨hpre 30 rfl, hout _ (by decide)⟩), wp_blocks rfl (hitem 34 (by decide) ⟨hpre 34 rfl, hout _ (by decide)⟩) (by omega) (h1 _ _ (grown_refl _ none) rfl (fun g e => by cases e) (.inl rfl))⟩
        · cases (show some _ = some o from ho)
          exact ⟨wanted_of (j := 30) rfl rfl (hitem 30 (by decide) ⟨hpre 30 rfl, hout _ (by decide)⟩), wp_bin rfl (hitem 35 (by decide) ⟨hpre 35 rfl, hout _ (by decide)⟩) rfl (guard_add _ _ _ _ _) (add_i64 _ _ _ (by omega)) (h1 _ _ (grown_refl _ none) rfl (fun g e => by cases e) (.inl rfl))⟩
        · cases (show some _ = some o from ho)
          exact ⟨wanted_of (j := 30) rfl rfl (hitem 30 (by decide) ⟨hpre 30 rfl, hout _ (by decide)⟩), wp_bin rfl (hitem 33 (by decide) ⟨hpre 33 rfl, hout _ (by decide)⟩) (hitem 36 (by decide) ⟨hpre 36 rfl, hout _ (by decide)⟩) (guard_int _ _ _ _ _) (eql_i64 _ _ _ (by omega)) (h1 _ _ (grown_refl _ none) rfl (fun g e => by cases e) (.inl rfl))⟩
        · cases (show some _ = some o from ho)
          have hc := hitem 30 (by decide) ⟨hpre 30 rfl, hout _ (by decide)⟩
          have hx := hitem 37 (by decide) ⟨hpre 37 rfl, hout _ (by decide)⟩
          exact ⟨rfl, wp_pick rfl hc (h1 _ _ (grown_refl _ none) hx (lt_bool hx) (Fresh.bool hx))⟩
        · cases (show some _ = some o from ho)
          have hx := hitem 38 (by decide) ⟨hpre 38 rfl, hout _ (by decide)⟩
          exact ⟨rfl, wp_move rfl (h1 _ _ (grown_refl _ none) hx (lt_bool hx) (Fresh.bool hx))⟩
        · cases (show some _ = some o from ho)
          exact ⟨wanted_of (j := 39) rfl rfl (hitem 39 (by decide) ⟨hpre 39 rfl, hout _ (by decide)⟩), wp_sruns rfl (hk.kept hg) (hs.kept hg) (fun w' hg' => h1 _ _ hg' rfl (fun g e => by cases e) (.inl rfl))⟩
        · cases (show some _ = some o from ho)
          have hc := hitem 39 (by decide) ⟨hpre 39 rfl, hout _ (by decide)⟩
          have hx := hitem 40 (by decide) ⟨hpre 40 rfl, hout _ (by decide)⟩
          exact ⟨rfl, wp_pick rfl hc (h1 _ _ (grown_refl _ none) hx (lt_bool hx) (Fresh.bool hx))⟩
        · cases (show some _ = some o from ho)
          have hx := hitem 41 (by decide) ⟨hpre 41 rfl, hout _ (by decide)⟩
          exact ⟨rfl, wp_assign rfl (h1 _ _ (grown_refl _ none) hx (lt_bool hx) (Fresh.bool hx))⟩
      · intro a w hg hend ha
        obtain ⟨hv, -⟩ := hend 42 (by decide) (by decide)
        obtain ⟨f, hf⟩ : ∃ f : Nat → Value, f = fun t => a.tmps.getD t undef := ⟨_, rfl⟩
        have h6 : f 4 = .bool true := by rw [hf]; exact hv
        rw [← hf] at ha
        clear hv hend
        clear hf
        subst ha
        simp only [Act.put, fill, glS, Nat.reduceAdd, Nat.reduceBEq, Nat.reduceLeDiff, decide_false, decide_true, Bool.or_false, Bool.or_true, Bool.and_true, cond_true, cond_false, h6]
        go_wp2_with fail
        go_ret
        exact ⟨rfl, grown_same hgW hg⟩
end Go.Proofs.YtcooadmepkojfaaDoor
