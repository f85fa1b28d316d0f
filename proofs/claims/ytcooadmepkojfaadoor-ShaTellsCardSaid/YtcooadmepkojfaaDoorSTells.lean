/- The law on sums of any bytes: its contract. -/
import Derived.Test.YtcooadmepkojfaaDoorOpsG
namespace Go.Proofs.YtcooadmepkojfaaDoor
open Go.RowKit

def gtS (t : Nat) : Bool := (decide (23 ≤ t) && decide (t ≤ 77)) || t == 6
def gtDie (k : Nat) : Nat := if k = 35 then 37 else 99
def gtOwn (k : Nat) : Bool := k == 21 || k == 25 || k == 32 || k == 35 || k == 37
def gtF (t : UInt8) (L : List UInt8) (A7 : Option Addr) (c7 : Nat) (A9 : Option Addr) (c9 : Nat) (kc : Nat) (P1 P2 : Part) : Nat → Value → World → Prop
  | 0 => fun v _ => v = (.slice A9 (L.length + 80) c9)
  | 1 => fun v _ => v = (.slice A7 L.length c7)
  | 2 => fun v _ => v = (.int .i64 ((L.length : Nat) : Int))
  | 3 => fun v _ => v = (.slice A9 L.length c9)
  | 4 => fun v _ => v = (.agg ((sumL (L)).map bv).toArray)
  | 5 => fun v _ => v = (.slice A7 L.length c7)
  | 6 => fun v _ => v = (.agg ((sumL (L)).map bv).toArray)
  | 7 => fun v _ => v = .bool true
  | 8 => fun v _ => v = .bool true
  | 9 => fun v _ => v = (.slice A9 (L.length + 80) c9)
  | 10 => fun v _ => v = (.slice A7 L.length c7)
  | 11 => fun v _ => v = .bool true
  | 12 => fun v _ => v = .bool true
  | 13 => fun v _ => v = .bool true
  | 14 => fun v _ => v = (.int .u8 (t.toNat : Int))
  | 15 => fun v _ => v = (.slice A7 L.length c7)
  | 16 => fun v _ => v = (.int .i64 (kc : Int))
  | 17 => fun v _ => v = pv P1
  | 18 => fun v _ => v = (.slice A7 L.length c7)
  | 19 => fun v _ => v = (.int .i64 (kc : Int))
  | 20 => fun v _ => v = pv P2
  | 21 => fun v w => ∃ A' c', v = .slice A' 2 c' ∧ RdAt w A' ([pv P1, pv P2])
  | 22 => fun v _ => v = (.agg ((tagL t (L)).map bv).toArray)
  | 23 => fun v _ => v = (.int .u8 (t.toNat : Int))
  | 24 => fun v _ => v = (.slice A7 L.length c7)
  | 25 => fun v w => ∃ A' c', v = .slice A' 1 c' ∧ RdAt w A' ([pv ((A7, L, c7) : Part)])
  | 26 => fun v _ => v = (.agg ((tagL t (L)).map bv).toArray)
  | 27 => fun v _ => v = .bool true
  | 28 => fun v _ => v = .bool true
  | 29 => fun v _ => v = .bool true
  | 30 => fun v _ => v = (.int .u8 (t.toNat : Int))
  | 31 => fun v _ => v = (.slice A7 L.length c7)
  | 32 => fun v w => ∃ A' c', v = .slice A' 1 c' ∧ RdAt w A' ([pv ((A7, L, c7) : Part)])
  | 33 => fun v _ => v = (.agg ((tagL t (L)).map bv).toArray)
  | 34 => fun v _ => v = (.int .u8 (t.toNat : Int))
  | 35 => fun v w => OwnB w v ([t])
  | 36 => fun v _ => v = (.slice A7 L.length c7)
  | 37 => fun v w => OwnB w v (([t]) ++ (L))
  | 38 => fun v _ => v = (.agg ((sumL ([t] ++ L)).map bv).toArray)
  | 39 => fun v _ => v = .bool true
  | 40 => fun v _ => v = .bool true
  | 41 => fun v _ => v = .bool true
  | 42 => fun v _ => v = (.slice A7 L.length c7)
  | 43 => fun v _ => v = (.int .i64 ((L.length : Nat) : Int))
  | 44 => fun v _ => v = (.int .i64 (((((L.length : Nat) : Int)) + 8) / 64 + 1))
  | 45 => fun v _ => v = (.slice A7 L.length c7)
  | 46 => fun v _ => v = (.int .i64 ((L.length : Nat) : Int))
  | 47 => fun v _ => v = (.int .i64 (((L.length : Nat) : Int) + 8))
  | 48 => fun v _ => v = (.int .i64 ((((L.length : Nat) : Int) + 8) / 64))
  | 49 => fun v _ => v = (.int .i64 ((((L.length : Nat) : Int) + 8) / 64 + 1))
  | 50 => fun v _ => v = .bool true
  | 51 => fun v _ => v = .bool true
  | 52 => fun v _ => v = .bool true
  | 53 => fun v _ => v = .bool true
  | 54 => fun v _ => v = .bool true
  | 55 => fun v _ => v = .bool true
  | _ => fun _ _ => True
theorem gtF_lasts (t : UInt8) (L : List UInt8) (A7 : Option Addr) (c7 : Nat) (A9 : Option Addr) (c9 : Nat) (kc : Nat) (P1 P2 : Part) : ∀ k, Lasts (gtF t L A7 c7 A9 c9 kc P1 P2 k)
  | 0 => lasts_val _
  | 1 => lasts_val _
  | 2 => lasts_val _
  | 3 => lasts_val _
  | 4 => lasts_val _
  | 5 => lasts_val _
  | 6 => lasts_val _
  | 7 => lasts_val _
  | 8 => lasts_val _
  | 9 => lasts_val _
  | 10 => lasts_val _
  | 11 => lasts_val _
  | 12 => lasts_val _
  | 13 => lasts_val _
  | 14 => lasts_val _
  | 15 => lasts_val _
  | 16 => lasts_val _
  | 17 => lasts_val _
  | 18 => lasts_val _
  | 19 => lasts_val _
  | 20 => lasts_val _
  | 21 => lasts_rd _ _
  | 22 => lasts_val _
  | 23 => lasts_val _
  | 24 => lasts_val _
  | 25 => lasts_rd _ _
  | 26 => lasts_val _
  | 27 => lasts_val _
  | 28 => lasts_val _
  | 29 => lasts_val _
  | 30 => lasts_val _
  | 31 => lasts_val _
  | 32 => lasts_rd _ _
  | 33 => lasts_val _
  | 34 => lasts_val _
  | 35 => lasts_own _
  | 36 => lasts_val _
  | 37 => lasts_own _
  | 38 => lasts_val _
  | 39 => lasts_val _
  | 40 => lasts_val _
  | 41 => lasts_val _
  | 42 => lasts_val _
  | 43 => lasts_val _
  | 44 => lasts_val _
  | 45 => lasts_val _
  | 46 => lasts_val _
  | 47 => lasts_val _
  | 48 => lasts_val _
  | 49 => lasts_val _
  | 50 => lasts_val _
  | 51 => lasts_val _
  | 52 => lasts_val _
  | 53 => lasts_val _
  | 54 => lasts_val _
  | 55 => lasts_val _
  | _ + 56 => fun _ _ _ _ _ _ _ => trivial

set_option maxRecDepth 100000 in
set_option maxHeartbeats 4000000 in
theorem ShaTells_any (A0 : Option Addr) (l0 : List UInt8) (c0 : Nat) (t : UInt8) (n2 : Int) (W0 : World) (hk : LaidK W0) (hs : LaidS W0) (hr0 : RdB W0 A0 l0) (hc0 : l0.length ≤ c0) (hm0 : c0 ≤ maxLen) :
    Calls Tryd.prog 4 #[.slice A0 l0.length c0, .int .u8 (t.toNat : Int), .int .i64 n2] W0 fun e w' => e = .returned (.bool true) ∧ W0.grownBy w' none := by
  have hm0' : c0 ≤ 9223372036854775807 := hm0
  obtain ⟨m, hmin0, hmn, hm200⟩ := min_some l0.length 200
  have hmin : (if (200 : Int) < (l0.length : Int) then (200 : Int) else (l0.length : Int)) = (m : Int) := hmin0
  clear hmin0
  obtain ⟨L, hL⟩ : ∃ L, L = l0.take m := ⟨_, rfl⟩
  have hLl : Hid (L.length = m) := by show _ = _; rw [hL, List.length_take]; omega
  have hrL : RdB W0 A0 L := by rw [hL]; exact rd_takeB hr0 m
  have hL200 : L.length ≤ 200 := by rw [hLl.out]; exact hm200
  clear hL
  obtain ⟨k, hkL, hK⟩ := Within_nat n2 L.length (by omega)
  go_enter Tryd.func4, Tryd.ntmps4
  go_wp2_with (first
    | (at_builtin; refine wpList_appB _ rfl _ _ rfl rfl (ownB_new W0 #[] [] 0 rfl rfl (Nat.zero_le _)) (news := L) rfl hLl.out.symm (hrL.alloc _) (by simp; omega) ?_; intro v1 w1 ho1 hgr1; have hL1 : OwnB w1 v1 L := ho1; have hG1 := Grew.fresh hgr1; obtain ⟨A7, c7, rfl, hc7, hm7, hr7⟩ := hL1.slice; clear ho1 hgr1)
    | (go_at_call 10; refine (hK _).mono ?_; rintro e w1 ⟨rfl, rfl⟩)
    | (go_at_call 11; refine (RoomyB_any A7 L c7 7 _ hr7 (by omega)).mono ?_; rintro e W ⟨v9, rfl, ho9, hG9⟩; obtain ⟨A9, c9, rfl, hc9, hm9, hr9⟩ := ho9.slice))
  have hG1n := hG1.nil
  have hG9n := hG9.nil
  have hgW : W0.grownBy W none := grown_same hG1n hG9n
  replace hk := hk.kept hgW
  replace hs := hs.kept hgW
  have hlt70 := hL1.lt
  have hlt90 := ho9.lt
  have hlt7 : ∀ g, (Value.slice A7 L.length c7).ownBlock = some g → g < W.heap.size := fun g e => Nat.lt_of_lt_of_le (hlt70 g e) hG9n.size
  have hlt9 : ∀ g, (Value.slice A9 (L.length + 80) c9).ownBlock = some g → g < W.heap.size := fun g e => hlt90 g (by rw [own_len] at e; exact e)
  have hlt9L : ∀ g, (Value.slice A9 L.length c9).ownBlock = some g → g < W.heap.size := fun g e => hlt90 g (by rw [own_len] at e; exact e)
  replace hr7 : RdB W A7 L := hr7.kept hG9n
  have hr9L : RdB W A9 L := by
    have := rd_takeB hr9 L.length
    rwa [List.take_left] at this
  have f1 : L.length + 80 ≤ c9 := by rw [List.length_append, List.length_replicate] at hc9; exact hc9
  have hc9L : L.length ≤ c9 := by omega
  have hsl9 := sl_hiB A9 (L.length + 80) c9 L.length hc9L
  have hin1 : ∀ p ∈ [((A7, L, c7) : Part)], RdB W p.1 p.2.1 := by
    intro p hp
    rw [List.mem_singleton] at hp
    subst hp
    exact hr7
  obtain ⟨P1, hP1⟩ : ∃ P1 : Part, P1 = (A7, L.take k, c7) := ⟨_, rfl⟩
  obtain ⟨P2, hP2⟩ : ∃ P2 : Part, P2 = (if c7 = k then A7 else A7.map (·.add k), L.drop k, c7 - k) := ⟨_, rfl⟩
  have hslP1 : ∀ w, (Instr.sliceAt 25 (.slice A7 L.length c7) none (some (.int .i64 (k : Int))) none).run Tryd.prog w = .ok (pv P1) w := fun w => by
    rw [sl_hiB A7 L.length c7 k (by omega) w, hP1, pv, List.length_take, Nat.min_eq_left hkL]
  have hslP2 : ∀ w, (Instr.sliceAt 25 (.slice A7 L.length c7) (some (.int .i64 (k : Int))) none none).run Tryd.prog w = .ok (pv P2) w := fun w => by
    rw [sl_loB A7 L.length c7 k hkL w, hP2, pv, List.length_drop]
  have hltP1 : ∀ g, (pv P1).ownBlock = some g → g < W.heap.size := fun g e => hlt7 g (by rw [hP1, pv, own_len (n' := L.length) (c' := c7)] at e; exact e)
  have hltP2 : ∀ g, (pv P2).ownBlock = some g → g < W.heap.size := fun g e => hlt7 g (by rw [hP2] at e; exact own_cut e)
  have hcatP : catP [P1, P2] = L := by rw [hP1, hP2]; simp [catP]
  have hinP : ∀ p ∈ [P1, P2], RdB W p.1 p.2.1 := by
    intro p hp
    simp only [List.mem_cons, List.not_mem_nil, or_false] at hp
    rcases hp with rfl | rfl
    · rw [hP1]; exact rd_takeB hr7 k
    · rw [hP2]
      have := RdAt.cut hr7 (k := k) (c := c7) (by rw [List.length_map]; exact hc7)
      rw [← List.map_drop] at this
      exact this
  clear hP1 hP2 hL1 hG1 ho9 hG9 hlt70 hlt90 hK
  refine wp_region_go2 (N := 78) (S := gtS) (die := gtDie) (own := gtOwn) (F := gtF t L A7 c7 A9 c9 k P1 P2) (by kernel_rfl) (by kernel_rfl) (Nat.le_of_ble_eq_true (by kernel_rfl)) (gtF_lasts t L A7 c7 A9 c9 k P1 P2) ?_ ?_
  · intro i o L' a w K hi ho hg hLi hout hpre houter hitem h1 h2
    have hcases : i = 0 ∨ i = 1 ∨ i = 2 ∨ i = 3 ∨ i = 4 ∨ i = 5 ∨ i = 6 ∨ i = 7 ∨ i = 8 ∨ i = 9 ∨ i = 10 ∨ i = 11 ∨ i = 12 ∨ i = 13 ∨ i = 14 ∨ i = 15 ∨ i = 16 ∨ i = 17 ∨ i = 18 ∨ i = 19 ∨ i = 20 ∨ i = 21 ∨ i = 22 ∨ i = 23 ∨ i = 24 ∨ i = 25 ∨ i = 26 ∨ i = 27 ∨ i = 28 ∨ i = 29 ∨ i = 30 ∨ i = 31 ∨ i = 32 ∨ i = 33 ∨ i = 34 ∨ i = 35 ∨ i = 36 ∨ i = 37 ∨ i = 38 ∨ i = 39 ∨ i = 40 ∨ i = 41 ∨ i = 42 ∨ i = 43 ∨ i = 44 ∨ i = 45 ∨ i = 46 ∨ i = 47 ∨ i = 48 ∨ i = 49 ∨ i = 50 ∨ i = 51 ∨ i = 52 ∨ i = 53 ∨ i = 54 ∨ i = 55 := by
      have : i < 56 := hi
      omega
    rcases hcases with rfl | rfl | rfl | rfl | rfl | rfl | rfl | rfl | rfl | rfl | rfl | rfl | rfl | rfl | rfl | rfl | rfl | rfl | rfl | rfl | rfl | rfl | rfl | rfl | rfl | rfl | rfl | rfl | rfl | rfl | rfl | rfl | rfl | rfl | rfl | rfl | rfl | rfl | rfl | rfl | rfl | rfl | rfl | rfl | rfl | rfl | rfl | rfl | rfl | rfl | rfl | rfl | rfl | rfl | rfl | rfl
    · cases (show some _ = some o from ho)
      refine ⟨rfl, wp_move rfl (h1 _ _ (grown_refl _ none) (houter _ rfl) ?_ ?_)⟩
      · rw [houter _ rfl]; exact fun g e => Nat.lt_of_lt_of_le (hlt9 g e) hg.size
      · rw [houter _ rfl]; exact Fresh.old rfl hlt9
    · cases (show some _ = some o from ho)
      refine ⟨rfl, wp_move rfl (h1 _ _ (grown_refl _ none) (houter _ rfl) ?_ ?_)⟩
      · rw [houter _ rfl]; exact fun g e => Nat.lt_of_lt_of_le (hlt7 g e) hg.size
      · rw [houter _ rfl]; exact Fresh.old rfl hlt7
    · cases (show some _ = some o from ho)
      exact ⟨rfl, wp_len rfl (by kernel_rfl) (hitem 1 (by decide) ⟨hpre 1 rfl, hout _ (by decide)⟩) (h1 _ _ (grown_refl _ none) rfl (fun g e => by cases e) (.inl rfl))⟩
    · cases (show some _ = some o from ho)
      exact ⟨rfl, wp_slice_hi rfl (hitem 0 (by decide) ⟨hpre 0 rfl, hout _ (by decide)⟩) (hitem 2 (by decide) ⟨hpre 2 rfl, hout _ (by decide)⟩) (hsl9 _) (h1 _ _ (grown_refl _ none) rfl (fun g e => Nat.lt_of_lt_of_le (hlt9L g e) hg.size) (Fresh.old rfl hlt9L))⟩
    · cases (show some _ = some o from ho)
      exact ⟨rfl, wp_sum rfl (hitem 3 (by decide) ⟨hpre 3 rfl, hout _ (by decide)⟩) (hr9L.kept hg) rfl hc9L hm9 (hk.kept hg) (hs.kept hg) (by omega) (fun w' hg' => h1 _ _ hg' rfl (fun g e => by cases e) (.inl rfl))⟩
    · cases (show some _ = some o from ho)
      refine ⟨rfl, wp_move rfl (h1 _ _ (grown_refl _ none) (houter _ rfl) ?_ ?_)⟩
      · rw [houter _ rfl]; exact fun g e => Nat.lt_of_lt_of_le (hlt7 g e) hg.size
      · rw [houter _ rfl]; exact Fresh.old rfl hlt7
    · cases (show some _ = some o from ho)
      exact ⟨rfl, wp_rsum rfl (hitem 5 (by decide) ⟨hpre 5 rfl, hout _ (by decide)⟩) (hr7.kept hg) rfl (by omega) (fun w' hg' => h1 _ _ hg' rfl (fun g e => by cases e) (.inl rfl))⟩
    · cases (show some _ = some o from ho)
      exact ⟨rfl, wp_bin rfl (hitem 4 (by decide) ⟨hpre 4 rfl, hout _ (by decide)⟩) (hitem 6 (by decide) ⟨hpre 6 rfl, hout _ (by decide)⟩) (guard_hash _ _ _ _ _) (eqlH_true (sumL L) (sumL_len _) _) (h1 _ _ (grown_refl _ none) rfl (fun g e => by cases e) (.inl rfl))⟩
    · cases (show some _ = some o from ho)
      have hx := hitem 7 (by decide) ⟨hpre 7 rfl, hout _ (by decide)⟩
      exact ⟨rfl, wp_move rfl (h1 _ _ (grown_refl _ none) hx (lt_bool hx) (Fresh.bool hx))⟩
    · cases (show some _ = some o from ho)
      refine ⟨wanted_of (j := 8) rfl rfl (hitem 8 (by decide) ⟨hpre 8 rfl, hout _ (by decide)⟩), wp_move rfl (h1 _ _ (grown_refl _ none) (houter _ rfl) ?_ ?_)⟩
      · rw [houter _ rfl]; exact fun g e => Nat.lt_of_lt_of_le (hlt9 g e) hg.size
      · rw [houter _ rfl]; exact Fresh.old rfl hlt9
    · cases (show some _ = some o from ho)
      refine ⟨wanted_of (j := 8) rfl rfl (hitem 8 (by decide) ⟨hpre 8 rfl, hout _ (by decide)⟩), wp_move rfl (h1 _ _ (grown_refl _ none) (houter _ rfl) ?_ ?_)⟩
      · rw [houter _ rfl]; exact fun g e => Nat.lt_of_lt_of_le (hlt7 g e) hg.size
      · rw [houter _ rfl]; exact Fresh.old rfl hlt7
    · cases (show some _ = some o from ho)
      exact ⟨wanted_of (j := 8) rfl rfl (hitem 8 (by decide) ⟨hpre 8 rfl, hout _ (by decide)⟩), wp_intactB (mark := 7) rfl (hitem 9 (by decide) ⟨hpre 9 rfl, hout _ (by decide)⟩) (hitem 10 (by decide) ⟨hpre 10 rfl, hout _ (by decide)⟩) rfl (hr9.kept hg) (hr7.kept hg) rfl rfl f1 hm9 (by omega) (fun w' hg' => h1 _ _ hg' rfl (fun g e => by cases e) (.inl rfl))⟩
    · cases (show some _ = some o from ho)
      have hc := hitem 8 (by decide) ⟨hpre 8 rfl, hout _ (by decide)⟩
      have hx := hitem 11 (by decide) ⟨hpre 11 rfl, hout _ (by decide)⟩
      exact ⟨rfl, wp_pick rfl hc (h1 _ _ (grown_refl _ none) hx (lt_bool hx) (Fresh.bool hx))⟩
    · cases (show some _ = some o from ho)
      have hx := hitem 12 (by decide) ⟨hpre 12 rfl, hout _ (by decide)⟩
      exact ⟨rfl, wp_move rfl (h1 _ _ (grown_refl _ none) hx (lt_bool hx) (Fresh.bool hx))⟩
    · cases (show some _ = some o from ho)
      exact ⟨wanted_of (j := 13) rfl rfl (hitem 13 (by decide) ⟨hpre 13 rfl, hout _ (by decide)⟩), wp_move rfl (h1 _ _ (grown_refl _ none) (houter _ rfl) (lt_val (houter _ rfl) rfl) (Fresh.val (houter _ rfl) rfl))⟩
    · cases (show some _ = some o from ho)
      refine ⟨wanted_of (j := 13) rfl rfl (hitem 13 (by decide) ⟨hpre 13 rfl, hout _ (by decide)⟩), wp_move rfl (h1 _ _ (grown_refl _ none) (houter _ rfl) ?_ ?_)⟩
      · rw [houter _ rfl]; exact fun g e => Nat.lt_of_lt_of_le (hlt7 g e) hg.size
      · rw [houter _ rfl]; exact Fresh.old rfl hlt7
    · cases (show some _ = some o from ho)
      exact ⟨wanted_of (j := 13) rfl rfl (hitem 13 (by decide) ⟨hpre 13 rfl, hout _ (by decide)⟩), wp_move rfl (h1 _ _ (grown_refl _ none) (houter _ rfl) (lt_val (houter _ rfl) rfl) (Fresh.val (houter _ rfl) rfl))⟩
    · cases (show some _ = some o from ho)
      exact ⟨wanted_of (j := 13) rfl rfl (hitem 13 (by decide) ⟨hpre 13 rfl, hout _ (by decide)⟩), wp_slice_hi rfl (hitem 15 (by decide) ⟨hpre 15 rfl, hout _ (by decide)⟩) (hitem 16 (by decide) ⟨hpre 16 rfl, hout _ (by decide)⟩) (hslP1 _) (h1 _ _ (grown_refl _ none) rfl (fun g e => Nat.lt_of_lt_of_le (hltP1 g e) hg.size) (Fresh.old rfl hltP1))⟩
    · cases (show some _ = some o from ho)
      refine ⟨wanted_of (j := 13) rfl rfl (hitem 13 (by decide) ⟨hpre 13 rfl, hout _ (by decide)⟩), wp_move rfl (h1 _ _ (grown_refl _ none) (houter _ rfl) ?_ ?_)⟩
      · rw [houter _ rfl]; exact fun g e => Nat.lt_of_lt_of_le (hlt7 g e) hg.size
      · rw [houter _ rfl]; exact Fresh.old rfl hlt7
    · cases (show some _ = some o from ho)
      exact ⟨wanted_of (j := 13) rfl rfl (hitem 13 (by decide) ⟨hpre 13 rfl, hout _ (by decide)⟩), wp_move rfl (h1 _ _ (grown_refl _ none) (houter _ rfl) (lt_val (houter _ rfl) rfl) (Fresh.val (houter _ rfl) rfl))⟩
    · cases (show some _ = some o from ho)
      exact ⟨wanted_of (j := 13) rfl rfl (hitem 13 (by decide) ⟨hpre 13 rfl, hout _ (by decide)⟩), wp_slice_lo rfl (hitem 18 (by decide) ⟨hpre 18 rfl, hout _ (by decide)⟩) (hitem 19 (by decide) ⟨hpre 19 rfl, hout _ (by decide)⟩) (hslP2 _) (h1 _ _ (grown_refl _ none) rfl (fun g e => Nat.lt_of_lt_of_le (hltP2 g e) hg.size) (Fresh.old rfl hltP2))⟩
    · cases (show some _ = some o from ho)
      exact ⟨wanted_of (j := 13) rfl rfl (hitem 13 (by decide) ⟨hpre 13 rfl, hout _ (by decide)⟩), wp_lit2 rfl (hitem 17 (by decide) ⟨hpre 17 rfl, hout _ (by decide)⟩) (hitem 20 (by decide) ⟨hpre 20 rfl, hout _ (by decide)⟩) (lit_p2 P1 P2 _) (h1 _ _ (grown_alloc (grown_refl _ _) _) (rd_lit _ [pv P1, pv P2] 2 _ rfl) (lt_new _ _) Fresh.lit)⟩
    · cases (show some _ = some o from ho)
      obtain ⟨A, c, hx, hr⟩ := hitem 21 (by decide) ⟨hpre 21 rfl, hout _ (by decide)⟩
      exact ⟨wanted_of (j := 13) rfl rfl (hitem 13 (by decide) ⟨hpre 13 rfl, hout _ (by decide)⟩), wp_tag (ps := [P1, P2]) (l := L) rfl (hitem 14 (by decide) ⟨hpre 14 rfl, hout _ (by decide)⟩) hx ⟨hr, fun p hp => (hinP p hp).kept hg⟩ rfl (hcatP)  (hk.kept hg) (hs.kept hg) (by omega) (Nat.le_of_ble_eq_true rfl) (fun w' hg' => h1 _ _ hg' rfl (fun g e => by cases e) (.inl rfl))⟩
    · cases (show some _ = some o from ho)
      exact ⟨wanted_of (j := 13) rfl rfl (hitem 13 (by decide) ⟨hpre 13 rfl, hout _ (by decide)⟩), wp_move rfl (h1 _ _ (grown_refl _ none) (houter _ rfl) (lt_val (houter _ rfl) rfl) (Fresh.val (houter _ rfl) rfl))⟩
    · cases (show some _ = some o from ho)
      refine ⟨wanted_of (j := 13) rfl rfl (hitem 13 (by decide) ⟨hpre 13 rfl, hout _ (by decide)⟩), wp_move rfl (h1 _ _ (grown_refl _ none) (houter _ rfl) ?_ ?_)⟩
      · rw [houter _ rfl]; exact fun g e => Nat.lt_of_lt_of_le (hlt7 g e) hg.size
      · rw [houter _ rfl]; exact Fresh.old rfl hlt7
    · cases (show some _ = some o from ho)
      exact ⟨wanted_of (j := 13) rfl rfl (hitem 13 (by decide) ⟨hpre 13 rfl, hout _ (by decide)⟩), wp_lit1 rfl (hitem 24 (by decide) ⟨hpre 24 rfl, hout _ (by decide)⟩) (lit_p1 ((A7, L, c7) : Part) _) (h1 _ _ (grown_alloc (grown_refl _ _) _) (rd_lit _ [pv ((A7, L, c7) : Part)] 1 _ rfl) (lt_new _ _) Fresh.lit)⟩
    · cases (show some _ = some o from ho)
      obtain ⟨A, c, hx, hr⟩ := hitem 25 (by decide) ⟨hpre 25 rfl, hout _ (by decide)⟩
      exact ⟨wanted_of (j := 13) rfl rfl (hitem 13 (by decide) ⟨hpre 13 rfl, hout _ (by decide)⟩), wp_rtag (ps := [((A7, L, c7) : Part)]) (l := L) rfl (hitem 23 (by decide) ⟨hpre 23 rfl, hout _ (by decide)⟩) hx ⟨hr, fun p hp => (hin1 p hp).kept hg⟩ rfl (by simp [catP])  (by omega) (Nat.le_of_ble_eq_true rfl) (fun w' hg' => h1 _ _ hg' rfl (fun g e => by cases e) (.inl rfl))⟩
    · cases (show some _ = some o from ho)
      exact ⟨wanted_of (j := 13) rfl rfl (hitem 13 (by decide) ⟨hpre 13 rfl, hout _ (by decide)⟩), wp_bin rfl (hitem 22 (by decide) ⟨hpre 22 rfl, hout _ (by decide)⟩) (hitem 26 (by decide) ⟨hpre 26 rfl, hout _ (by decide)⟩) (guard_hash _ _ _ _ _) (eqlH_true (tagL t L) (sumL_len _) _) (h1 _ _ (grown_refl _ none) rfl (fun g e => by cases e) (.inl rfl))⟩
    · cases (show some _ = some o from ho)
      have hc := hitem 13 (by decide) ⟨hpre 13 rfl, hout _ (by decide)⟩
      have hx := hitem 27 (by decide) ⟨hpre 27 rfl, hout _ (by decide)⟩
      exact ⟨rfl, wp_pick rfl hc (h1 _ _ (grown_refl _ none) hx (lt_bool hx) (Fresh.bool hx))⟩
    · cases (show some _ = some o from ho)
      have hx := hitem 28 (by decide) ⟨hpre 28 rfl, hout _ (by decide)⟩
      exact ⟨rfl, wp_move rfl (h1 _ _ (grown_refl _ none) hx (lt_bool hx) (Fresh.bool hx))⟩
    · cases (show some _ = some o from ho)
      exact ⟨wanted_of (j := 29) rfl rfl (hitem 29 (by decide) ⟨hpre 29 rfl, hout _ (by decide)⟩), wp_move rfl (h1 _ _ (grown_refl _ none) (houter _ rfl) (lt_val (houter _ rfl) rfl) (Fresh.val (houter _ rfl) rfl))⟩
    · cases (show some _ = some o from ho)
      refine ⟨wanted_of (j := 29) rfl rfl (hitem 29 (by decide) ⟨hpre 29 rfl, hout _ (by decide)⟩), wp_move rfl (h1 _ _ (grown_refl _ none) (houter _ rfl) ?_ ?_)⟩
      · rw [houter _ rfl]; exact fun g e => Nat.lt_of_lt_of_le (hlt7 g e) hg.size
      · rw [houter _ rfl]; exact Fresh.old rfl hlt7
    · cases (show some _ = some o from ho)
      exact ⟨wanted_of (j := 29) rfl rfl (hitem 29 (by decide) ⟨hpre 29 rfl, hout _ (by decide)⟩), wp_lit1 rfl (hitem 31 (by decide) ⟨hpre 31 rfl, hout _ (by decide)⟩) (lit_p1 ((A7, L, c7) : Part) _) (h1 _ _ (grown_alloc (grown_refl _ _) _) (rd_lit _ [pv ((A7, L, c7) : Part)] 1 _ rfl) (lt_new _ _) Fresh.lit)⟩
    · cases (show some _ = some o from ho)
      obtain ⟨A, c, hx, hr⟩ := hitem 32 (by decide) ⟨hpre 32 rfl, hout _ (by decide)⟩
      exact ⟨wanted_of (j := 29) rfl rfl (hitem 29 (by decide) ⟨hpre 29 rfl, hout _ (by decide)⟩), wp_tag (ps := [((A7, L, c7) : Part)]) (l := L) rfl (hitem 30 (by decide) ⟨hpre 30 rfl, hout _ (by decide)⟩) hx ⟨hr, fun p hp => (hin1 p hp).kept hg⟩ rfl (by simp [catP])  (hk.kept hg) (hs.kept hg) (by omega) (Nat.le_of_ble_eq_true rfl) (fun w' hg' => h1 _ _ hg' rfl (fun g e => by cases e) (.inl rfl))⟩
    · cases (show some _ = some o from ho)
      exact ⟨wanted_of (j := 29) rfl rfl (hitem 29 (by decide) ⟨hpre 29 rfl, hout _ (by decide)⟩), wp_move rfl (h1 _ _ (grown_refl _ none) (houter _ rfl) (lt_val (houter _ rfl) rfl) (Fresh.val (houter _ rfl) rfl))⟩
    · cases (show some _ = some o from ho)
      exact ⟨wanted_of (j := 29) rfl rfl (hitem 29 (by decide) ⟨hpre 29 rfl, hout _ (by decide)⟩), wp_lit1 rfl (hitem 34 (by decide) ⟨hpre 34 rfl, hout _ (by decide)⟩) (lit_b1 t _) (h1 _ _ (grown_alloc (grown_refl _ _) _) (ownB_new _ _ [t] 1 rfl rfl (by unfold maxLen; omega)) (lt_new _ _) Fresh.lit)⟩
    · cases (show some _ = some o from ho)
      refine ⟨wanted_of (j := 29) rfl rfl (hitem 29 (by decide) ⟨hpre 29 rfl, hout _ (by decide)⟩), wp_move rfl (h1 _ _ (grown_refl _ none) (houter _ rfl) ?_ ?_)⟩
      · rw [houter _ rfl]; exact fun g e => Nat.lt_of_lt_of_le (hlt7 g e) hg.size
      · rw [houter _ rfl]; exact Fresh.old rfl hlt7
    · cases (show some _ = some o from ho)
      exact ⟨wanted_of (j := 29) rfl rfl (hitem 29 (by decide) ⟨hpre 29 rfl, hout _ (by decide)⟩), wp_appB rfl rfl (hitem 35 (by decide) ⟨hpre 35 rfl, hLi⟩) (hitem 36 (by decide) ⟨hpre 36 rfl, hout _ (by decide)⟩) rfl (hr7.kept hg) (by simp; omega) fun v w' hv hw => h2 35 v w' (by decide) ⟨hpre 35 rfl, hLi⟩ rfl rfl hw.1 hv (fun g e => hv.lt _ e) (Fresh.ofGrew hw)⟩
    · cases (show some _ = some o from ho)
      obtain ⟨A, c, hx, q1, q2, hr⟩ := OwnB.slice (hitem 37 (by decide) ⟨hpre 37 rfl, hout _ (by decide)⟩)
      exact ⟨wanted_of (j := 29) rfl rfl (hitem 29 (by decide) ⟨hpre 29 rfl, hout _ (by decide)⟩), wp_rsum rfl hx hr rfl (by simp; omega) (fun w' hg' => h1 _ _ hg' rfl (fun g e => by cases e) (.inl rfl))⟩
    · cases (show some _ = some o from ho)
      exact ⟨wanted_of (j := 29) rfl rfl (hitem 29 (by decide) ⟨hpre 29 rfl, hout _ (by decide)⟩), wp_bin rfl (hitem 33 (by decide) ⟨hpre 33 rfl, hout _ (by decide)⟩) (hitem 38 (by decide) ⟨hpre 38 rfl, hout _ (by decide)⟩) (guard_hash _ _ _ _ _) (eqlH_true (tagL t L) (sumL_len _) _) (h1 _ _ (grown_refl _ none) rfl (fun g e => by cases e) (.inl rfl))⟩
    · cases (show some _ = some o from ho)
      have hc := hitem 29 (by decide) ⟨hpre 29 rfl, hout _ (by decide)⟩
      have hx := hitem 39 (by decide) ⟨hpre 39 rfl, hout _ (by decide)⟩
      exact ⟨rfl, wp_pick rfl hc (h1 _ _ (grown_refl _ none) hx (lt_bool hx) (Fresh.bool hx))⟩
    · cases (show some _ = some o from ho)
      have hx := hitem 40 (by decide) ⟨hpre 40 rfl, hout _ (by decide)⟩
      exact ⟨rfl, wp_move rfl (h1 _ _ (grown_refl _ none) hx (lt_bool hx) (Fresh.bool hx))⟩
    · cases (show some _ = some o from ho)
      refine ⟨wanted_of (j := 41) rfl rfl (hitem 41 (by decide) ⟨hpre 41 rfl, hout _ (by decide)⟩), wp_move rfl (h1 _ _ (grown_refl _ none) (houter _ rfl) ?_ ?_)⟩
      · rw [houter _ rfl]; exact fun g e => Nat.lt_of_lt_of_le (hlt7 g e) hg.size
      · rw [houter _ rfl]; exact Fresh.old rfl hlt7
    · cases (show some _ = some o from ho)
      exact ⟨wanted_of (j := 41) rfl rfl (hitem 41 (by decide) ⟨hpre 41 rfl, hout _ (by decide)⟩), wp_len rfl (by kernel_rfl) (hitem 42 (by decide) ⟨hpre 42 rfl, hout _ (by decide)⟩) (h1 _ _ (grown_refl _ none) rfl (fun g e => by cases e) (.inl rfl))⟩
    · cases (show some _ = some o from ho)
      exact ⟨wanted_of (j := 41) rfl rfl (hitem 41 (by decide) ⟨hpre 41 rfl, hout _ (by decide)⟩), wp_blocks rfl (hitem 43 (by decide) ⟨hpre 43 rfl, hout _ (by decide)⟩) (by omega) (h1 _ _ (grown_refl _ none) rfl (fun g e => by cases e) (.inl rfl))⟩
    · cases (show some _ = some o from ho)
      refine ⟨wanted_of (j := 41) rfl rfl (hitem 41 (by decide) ⟨hpre 41 rfl, hout _ (by decide)⟩), wp_move rfl (h1 _ _ (grown_refl _ none) (houter _ rfl) ?_ ?_)⟩
      · rw [houter _ rfl]; exact fun g e => Nat.lt_of_lt_of_le (hlt7 g e) hg.size
      · rw [houter _ rfl]; exact Fresh.old rfl hlt7
    · cases (show some _ = some o from ho)
      exact ⟨wanted_of (j := 41) rfl rfl (hitem 41 (by decide) ⟨hpre 41 rfl, hout _ (by decide)⟩), wp_len rfl (by kernel_rfl) (hitem 45 (by decide) ⟨hpre 45 rfl, hout _ (by decide)⟩) (h1 _ _ (grown_refl _ none) rfl (fun g e => by cases e) (.inl rfl))⟩
    · cases (show some _ = some o from ho)
      exact ⟨wanted_of (j := 41) rfl rfl (hitem 41 (by decide) ⟨hpre 41 rfl, hout _ (by decide)⟩), wp_bin rfl (hitem 46 (by decide) ⟨hpre 46 rfl, hout _ (by decide)⟩) rfl (guard_add _ _ _ _ _) (add_i64 _ _ _ (by omega)) (h1 _ _ (grown_refl _ none) rfl (fun g e => by cases e) (.inl rfl))⟩
    · cases (show some _ = some o from ho)
      exact ⟨wanted_of (j := 41) rfl rfl (hitem 41 (by decide) ⟨hpre 41 rfl, hout _ (by decide)⟩), wp_bin rfl (hitem 47 (by decide) ⟨hpre 47 rfl, hout _ (by decide)⟩) rfl (guard_quo _ _ _ _ _) (quo64_i64 _ _ (by omega)) (h1 _ _ (grown_refl _ none) rfl (fun g e => by cases e) (.inl rfl))⟩
    · cases (show some _ = some o from ho)
      exact ⟨wanted_of (j := 41) rfl rfl (hitem 41 (by decide) ⟨hpre 41 rfl, hout _ (by decide)⟩), wp_bin rfl (hitem 48 (by decide) ⟨hpre 48 rfl, hout _ (by decide)⟩) rfl (guard_add _ _ _ _ _) (add_i64 _ _ _ (by omega)) (h1 _ _ (grown_refl _ none) rfl (fun g e => by cases e) (.inl rfl))⟩
    · cases (show some _ = some o from ho)
      exact ⟨wanted_of (j := 41) rfl rfl (hitem 41 (by decide) ⟨hpre 41 rfl, hout _ (by decide)⟩), wp_bin rfl (hitem 44 (by decide) ⟨hpre 44 rfl, hout _ (by decide)⟩) (hitem 49 (by decide) ⟨hpre 49 rfl, hout _ (by decide)⟩) (guard_int _ _ _ _ _) (eql_i64 _ _ _ (by rfl)) (h1 _ _ (grown_refl _ none) rfl (fun g e => by cases e) (.inl rfl))⟩
    · cases (show some _ = some o from ho)
      have hc := hitem 41 (by decide) ⟨hpre 41 rfl, hout _ (by decide)⟩
      have hx := hitem 50 (by decide) ⟨hpre 50 rfl, hout _ (by decide)⟩
      exact ⟨rfl, wp_pick rfl hc (h1 _ _ (grown_refl _ none) hx (lt_bool hx) (Fresh.bool hx))⟩
    · cases (show some _ = some o from ho)
      have hx := hitem 51 (by decide) ⟨hpre 51 rfl, hout _ (by decide)⟩
      exact ⟨rfl, wp_move rfl (h1 _ _ (grown_refl _ none) hx (lt_bool hx) (Fresh.bool hx))⟩
    · cases (show some _ = some o from ho)
      exact ⟨wanted_of (j := 52) rfl rfl (hitem 52 (by decide) ⟨hpre 52 rfl, hout _ (by decide)⟩), wp_sruns rfl (hk.kept hg) (hs.kept hg) (fun w' hg' => h1 _ _ hg' rfl (fun g e => by cases e) (.inl rfl))⟩
    · cases (show some _ = some o from ho)
      have hc := hitem 52 (by decide) ⟨hpre 52 rfl, hout _ (by decide)⟩
      have hx := hitem 53 (by decide) ⟨hpre 53 rfl, hout _ (by decide)⟩
      exact ⟨rfl, wp_pick rfl hc (h1 _ _ (grown_refl _ none) hx (lt_bool hx) (Fresh.bool hx))⟩
    · cases (show some _ = some o from ho)
      have hx := hitem 54 (by decide) ⟨hpre 54 rfl, hout _ (by decide)⟩
      exact ⟨rfl, wp_assign rfl (h1 _ _ (grown_refl _ none) hx (lt_bool hx) (Fresh.bool hx))⟩
  · intro a w hg hend ha
    obtain ⟨hv, -⟩ := hend 55 (by decide) (by decide)
    obtain ⟨f, hf⟩ : ∃ f : Nat → Value, f = fun t => a.tmps.getD t undef := ⟨_, rfl⟩
    have h6 : f 6 = .bool true := by rw [hf]; exact hv
    rw [← hf] at ha
    clear hv hend
    clear hf
    subst ha
    simp only [fill, gtS, Nat.reduceAdd, Nat.reduceBEq, Nat.reduceLeDiff, decide_false, decide_true, Bool.or_false, Bool.or_true, Bool.and_true, cond_true, cond_false, h6]
    go_wp2_with fail
    go_ret
    exact ⟨rfl, grown_same hgW hg⟩
end Go.Proofs.YtcooadmepkojfaaDoor
