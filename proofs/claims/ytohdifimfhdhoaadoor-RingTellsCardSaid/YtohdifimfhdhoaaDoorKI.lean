/- Merkle trees: depths, costs, what a path leads up to; the program's. Merkle trees: what a path leads up to, the document's own. -/
import Derived.Test.YtohdifimfhdhoaaDoorKH
import Derived.Test.YtohdifimfhdhoaaDoorKG
namespace Go.Proofs.YtohdifimfhdhoaaDoor
open Go.RowKit

theorem Depth_no (i n : Int) (h : i < 0 ∨ n ≤ i ∨ 1048576 < n) (w : World) : Calls Tryd.prog 22 #[.int .i64 i, .int .i64 n] w fun e w' => e = .returned (.int .i64 (-1)) ∧ w' = w := by
  by_cases h0 : i < 0
  · clear h
    go_enter Tryd.func22, Tryd.ntmps22
    go_wp2_with fail
    go_ret
    exact ⟨rfl, rfl⟩
  by_cases h1 : n ≤ i
  · clear h
    go_enter Tryd.func22, Tryd.ntmps22
    go_wp2_with fail
    go_ret
    exact ⟨rfl, rfl⟩
  have h2 : 1048576 < n := by omega
  clear h
  go_enter Tryd.func22, Tryd.ntmps22
  go_wp2_with fail
  go_ret
  exact ⟨rfl, rfl⟩
theorem Depth_any (i n : Nat) (h1 : i < n) (h2 : n ≤ 512) (w : World) : Calls Tryd.prog 22 #[.int .i64 (i : Int), .int .i64 (n : Int)] w fun e w' => e = .returned (.int .i64 (depthN i n : Int)) ∧ w' = w := by
  have a0 : ¬ (i : Int) < 0 := by omega
  have a1 : ¬ (n : Int) ≤ (i : Int) := by omega
  have a2 : ¬ (1048576 : Int) < (n : Int) := by omega
  obtain ⟨D, hD⟩ : ∃ D, D = depthN i n := ⟨_, rfl⟩
  have HD := Lib.hid hD
  have hD5 : D ≤ 512 := by have := depthN_lt n i; omega
  rw [← hD]
  clear hD
  go_enter Tryd.func22, Tryd.ntmps22
  go_wp2_with fail
  go_loopw [0, 1, 5] (fun x y z wz => ∃ i' n' d' : Nat, i' < n' ∧ n' ≤ 512 ∧ Hid (d' + depthN i' n' = D) ∧ x = .int .i64 (i' : Int) ∧ y = .int .i64 (n' : Int) ∧ z = .int .i64 (d' : Int) ∧ wz = w) (fun _ y _ _ => (intOf y).toNat)
  case atStart => exact ⟨i, n, 0, h1, h2, (show 0 + depthN i n = D by rw [HD.out]; omega), rfl, rfl, rfl, rfl⟩
  case round =>
    clear a0 a1 a2 h1 h2 HD
    obtain ⟨i, n, d, h1, h2, hd, rfl, rfl, rfl, rfl⟩ := hrel
    by_cases hn : 1 < n
    · have hn' : (1 : Int) < (n : Int) := by omega
      have hls := fun w' => leftSize_any n (by omega) (by omega) w'
      have hk1 := halfN_pos n
      have hk2 := halfN_lt (n := n) (by omega)
      have hd5 : d ≤ 512 := by have := hd.out; omega
      by_cases hik : i < halfN n
      · have hik' : (i : Int) < (halfN n : Int) := by omega
        have HN : Hid (d + 1 + depthN i (halfN n) = D) := by
          show _ = _
          have := hd.out
          rw [depthN_l (by omega) hik] at this
          omega
        generalize halfN n = k at hls hk1 hk2 hik hik' HN
        go_wp2_with (go_at_call 41; refine (hls _).mono ?_; rintro e w5 ⟨rfl, rfl⟩)
        go_roundw
        case rel => exact ⟨i, k, d + 1, hik, by omega, HN, rfl, rfl, by go_num, trivial⟩
        case measure => simp [intOf]; omega
      · have hik' : ¬ (i : Int) < (halfN n : Int) := by omega
        have HN : Hid (d + 1 + depthN (i - halfN n) (n - halfN n) = D) := by
          show _ = _
          have := hd.out
          rw [depthN_r (by omega) hik] at this
          omega
        generalize halfN n = k at hls hk1 hk2 hik hik' HN
        go_wp2_with (go_at_call 41; refine (hls _).mono ?_; rintro e w5 ⟨rfl, rfl⟩)
        go_roundw
        case rel => exact ⟨i - k, n - k, d + 1, by omega, by omega, HN, by go_num, by go_num, by go_num, trivial⟩
        case measure => simp [intOf]; omega
    · have hn' : ¬ (1 : Int) < (n : Int) := by omega
      have HN : Hid (d = D) := by
        show _ = _
        have := hd.out
        rw [depthN_1 (by omega)] at this
        omega
      go_wp2_with fail
      go_ret
      exact ⟨by rw [HN.out]; rfl, rfl⟩

/-- The path's k-th hash, where it lies. -/
theorem range_at {w : World} {g : Nat} {P : List UInt8} (h : RdB w (some ⟨g, 0, none⟩) P) {k n : Nat} (hl : P.length = n * 32) (hk : k < n) : w.rangeAt g (k * 32) (((P.drop (k * 32)).take 32).map bv) := by
  obtain ⟨ad, e, hc⟩ := hash_at h hl hk
  cases e
  intro j v hv
  have := hc j v hv
  rwa [Addr.add_mid, Addr.add_mid, Nat.zero_add] at this
theorem sl_hiH2 (A : Option Addr) (n c k : Nat) (hk : k ≤ c) (w : World) : (Instr.sliceAt 24 (.slice A n c) none (some (.int .i64 (k : Int))) none).run Tryd.prog w = .ok (.slice A k c) w := sl_hiH A n c k hk w

def duS (t : Nat) : Bool := t == 23 || t == 24 || t == 25 || t == 26 || t == 27 || t == 28 || t == 29 || t == 30 || t == 31 || t == 32 || t == 33 || t == 34
def duDie (_ : Nat) : Nat := 99
def duOwn (_ : Nat) : Bool := false
def duAl (k : Nat) : Bool := k == 0 || k == 3 || k == 5 || k == 7
def duF (A : Option Addr) (g k c i d cp mn : Nat) (T S Z : List UInt8) : Nat → Value → World → Prop
  | 0 => fun v _ => v = .slice A mn c
  | 1 => fun v _ => v = .int .i64 (i : Int)
  | 2 => fun v _ => v = .int .i64 (k : Int)
  | 3 => fun v _ => v = .slice (some ⟨g, 0, none⟩) (d + 1) cp
  | 4 => fun v _ => v = .int .i64 (d : Int)
  | 5 => fun v _ => v = .slice (some ⟨g, 0, none⟩) d cp
  | 6 => fun v _ => v = (.agg (S.map bv).toArray)
  | 7 => fun v _ => v = .slice (some ⟨g, 0, none⟩) (d + 1) cp
  | 8 => fun v _ => v = .int .i64 (d : Int)
  | 9 => fun v _ => v = .pointer (some ⟨g, d * 32, none⟩)
  | 10 => fun v _ => v = (.agg (T.map bv).toArray)
  | 11 => fun v _ => v = (.agg (Z.map bv).toArray)
  | _ => fun _ _ => True
theorem duF_lasts (A : Option Addr) (g k c i d cp mn : Nat) (T S Z : List UInt8) : ∀ kq, LastsB duAl kq (duF A g k c i d cp mn T S Z kq)
  | 0 => LastsB.val _
  | 1 => LastsB.val _
  | 2 => LastsB.val _
  | 3 => LastsB.val _
  | 4 => LastsB.val _
  | 5 => LastsB.val _
  | 6 => LastsB.val _
  | 7 => LastsB.val _
  | 8 => LastsB.val _
  | 9 => LastsB.val _
  | 10 => LastsB.val _
  | 11 => LastsB.val _
  | _ + 12 => fun _ _ _ _ _ _ _ => trivial
def dvS (t : Nat) : Bool := t == 35 || t == 36 || t == 37 || t == 38 || t == 39 || t == 40 || t == 41 || t == 42 || t == 43 || t == 44 || t == 45 || t == 46 || t == 47 || t == 48 || t == 49 || t == 50
def dvDie (_ : Nat) : Nat := 99
def dvOwn (_ : Nat) : Bool := false
def dvAl (k : Nat) : Bool := k == 0 || k == 4 || k == 11 || k == 13
def dvF (A : Option Addr) (g n k m2 c i i2 d cp mn : Nat) (T S Z : List UInt8) : Nat → Value → World → Prop
  | 0 => fun v _ => v = .slice (some ⟨g, 0, none⟩) (d + 1) cp
  | 1 => fun v _ => v = .int .i64 (d : Int)
  | 2 => fun v _ => v = .pointer (some ⟨g, d * 32, none⟩)
  | 3 => fun v _ => v = (.agg (T.map bv).toArray)
  | 4 => fun v _ => v = .slice A mn c
  | 5 => fun v _ => v = .int .i64 (i : Int)
  | 6 => fun v _ => v = .int .i64 (k : Int)
  | 7 => fun v _ => v = .int .i64 (i2 : Int)
  | 8 => fun v _ => v = .int .i64 (n : Int)
  | 9 => fun v _ => v = .int .i64 (k : Int)
  | 10 => fun v _ => v = .int .i64 (m2 : Int)
  | 11 => fun v _ => v = .slice (some ⟨g, 0, none⟩) (d + 1) cp
  | 12 => fun v _ => v = .int .i64 (d : Int)
  | 13 => fun v _ => v = .slice (some ⟨g, 0, none⟩) d cp
  | 14 => fun v _ => v = (.agg (S.map bv).toArray)
  | 15 => fun v _ => v = (.agg (Z.map bv).toArray)
  | _ => fun _ _ => True
theorem dvF_lasts (A : Option Addr) (g n k m2 c i i2 d cp mn : Nat) (T S Z : List UInt8) : ∀ kq, LastsB dvAl kq (dvF A g n k m2 c i i2 d cp mn T S Z kq)
  | 0 => LastsB.val _
  | 1 => LastsB.val _
  | 2 => LastsB.val _
  | 3 => LastsB.val _
  | 4 => LastsB.val _
  | 5 => LastsB.val _
  | 6 => LastsB.val _
  | 7 => LastsB.val _
  | 8 => LastsB.val _
  | 9 => LastsB.val _
  | 10 => LastsB.val _
  | 11 => LastsB.val _
  | 12 => LastsB.val _
  | 13 => LastsB.val _
  | 14 => LastsB.val _
  | 15 => LastsB.val _
  | _ + 16 => fun _ _ _ _ _ _ _ => trivial

set_option maxRecDepth 100000 in
set_option maxHeartbeats 2000000 in
theorem up_any (A : Option Addr) (x : List UInt8) (c : Nat) (hx : x.length ≤ 1000) : ∀ (n i d : Nat) (B : Option Addr) (P : List UInt8) (cp : Nat) (w : World), i < n → n ≤ 500 → d = depthN i n → (d = 0 ∨ ∃ g, B = some ⟨g, 0, none⟩) → P.length = d * 32 → d ≤ cp → RdB w A x → RdB w B P → Laid2 w →
    Calls Tryd.prog 43 #[.slice A x.length c, .int .i64 (i : Int), .int .i64 (n : Int), .slice B d cp] w fun e w' => e = .returned (.agg ((upL x i n P d).map bv).toArray) ∧ w.grownBy w' none := by
  intro n
  induction n using Nat.strongRecOn with
  | ind n ih =>
  intro i d B P cp w hi h5 hd hB hP hc hr hrP hk
  by_cases h1 : n = 1
  · subst h1
    obtain rfl : d = 0 := by rw [hd]; exact depthN_1 (Nat.le_refl _)
    have hle := fun w' (h : w.grownBy w' none) => leafRoot_any A x c w' (hk.kept h) (hr.kept h) hx
    obtain ⟨X, hX⟩ : ∃ X, X = tagL 0 x := ⟨_, rfl⟩
    rw [← hX] at hle
    have HX : Hid (X = upL x i 1 P 0) := by show _ = _; rw [hX]; rfl
    have hXl : Hid (X.length = 32) := by rw [hX]; exact tagL_len _ _
    rw [← HX.out]
    obtain ⟨m, hm⟩ : ∃ m, m = x.length := ⟨_, rfl⟩
    rw [← hm] at hle ⊢
    clear hX hm ih hd hB hP hc hi
    go_enter Tryd.func43, Tryd.ntmps43
    go_wp2_with (first
      | (go_at_call 40; refine (hle _ (grown_alloc (grown_refl _ _) _)).mono ?_; rintro e w6 ⟨rfl, hg6⟩)
      | (refine wpList_store_row rfl 23 _ _ rfl (w.heap.size) (X.map bv).toArray rfl rfl 23 _ (keep_of (alloc_at rfl) hg6) (hashV_size X hXl.out) (by rw [show (X.map bv).toArray.size = 32 from by rw [List.size_toArray, List.length_map, hXl.out]]; rfl) (bv_all' _) ?_))
    refine bodyPost_ret (results_cell_row rfl _ _ (w.heap.size) 23 (X.map bv).toArray (0, 0) _ rfl (setRow_heap _ _ _ _ _ _ (keep_of (alloc_at rfl) hg6)) Tryd.underlying23 rfl (hashV_size X hXl.out)) rfl ?_
    exact ⟨rfl, grown_setRow (grown_same (grown_alloc (grown_refl _ _) _) hg6) (.inr (by omega)) _⟩
  have h2 : 2 ≤ n := by omega
  have n1 : ¬ (n : Int) = 1 := by omega
  have hls := fun w' => leftSize_any n (by omega) (by omega) w'
  have hk1 := halfN_pos n
  have hk2 := halfN_lt h2
  obtain ⟨d, rfl⟩ : ∃ e, d = e + 1 := ⟨d - 1, by have := depthN_pos (i := i) h2; omega⟩
  obtain ⟨g, rfl⟩ : ∃ g, B = some ⟨g, 0, none⟩ := by
    rcases hB with h | h
    · omega
    · exact h
  have hd5 : d ≤ 500 := by have := depthN_lt n i; omega
  have hdc : d ≤ cp := by omega
  have hPl : (P.take (d * 32)).length = d * 32 := by rw [List.length_take]; omega
  obtain ⟨T, hT⟩ : ∃ T, T = (P.drop (d * 32)).take 32 := ⟨_, rfl⟩
  have hTl : Hid (T.length = 32) := by show _ = _; rw [hT, List.length_take, List.length_drop]; omega
  have hrT := fun w' (h : w.grownBy w' none) => range_at (hrP.kept h) hP (show d < d + 1 by omega)
  rw [← hT] at hrT
  by_cases hik : i < halfN n
  · have hup := fun w' (h : w.grownBy w' none) => ih (halfN n) hk2 i d (some ⟨g, 0, none⟩) (P.take (d * 32)) cp w' hik (by omega) (by have := depthN_l h2 hik; omega) (.inr ⟨g, rfl⟩) hPl hdc (hr.kept h) ((rd_takeB hrP _).kept h) (hk.kept h)
    rw [upL_take x P d _ _ _ (Nat.le_refl _)] at hup
    obtain ⟨S, hS⟩ : ∃ S, S = upL x i (halfN n) P d := ⟨_, rfl⟩
    rw [← hS] at hup
    have hSl : Hid (S.length = 32) := by rw [hS]; exact upL_len _ _ _ _ _
    obtain ⟨Z, hZ⟩ : ∃ Z, Z = tagL 1 (S ++ T) := ⟨_, rfl⟩
    have hZl : Hid (Z.length = 32) := by rw [hZ]; exact tagL_len _ _
    have HZ : Hid (upL x i n P (d + 1) = Z) := by
      show _ = _
      rw [upL, if_pos hik, hZ, hS, hT]
    rw [HZ.out]
    have hjo := fun w' (h : Laid2 w') => join_any S T hSl.out hTl.out w' h
    rw [← hZ] at hjo
    clear hZ hS HZ hT ih hrP hr hB
    have hik2 : (i : Int) < (halfN n : Int) := by omega
    clear hd
    generalize halfN n = k at hls hk1 hk2 hup hik hik2
    obtain ⟨mn, hmn⟩ : ∃ mn, mn = x.length := ⟨_, rfl⟩
    rw [← hmn] at hup ⊢
    clear hmn
    clear hPl hP
    have el : ((d + 1 : Nat) : Int) - 1 = (d : Int) := by omega
    go_enter Tryd.func43, Tryd.ntmps43
    go_upto_region 6 with (go_at_call 41; refine (hls _).mono ?_; rintro e w5 ⟨rfl, rfl⟩)
    generalize hW : World.alloc w _ = w1
    have hb2 : w1.heap[w.heap.size]? = some (.cells (rowH []) 23 (0, 0)) := by rw [← hW]; exact alloc_at rfl
    have hgW : w.grownBy w1 none := by rw [← hW]; exact grown_alloc (grown_refl _ _) _
    clear hW
    replace hup := fun w' (h : w1.grownBy w' none) => hup w' (grown_same hgW h)
    replace hrT := fun w' (h : w1.grownBy w' none) => hrT w' (grown_same hgW h)
    replace hk := hk.kept hgW
    refine wp_region_gb (al := duAl) 12 (N := 51) (S := duS) (die := duDie) (own := duOwn) (F := duF A g k c i d cp mn T S Z) (by kernel_rfl) (Nat.le_of_ble_eq_true (by kernel_rfl)) (fun _ => by kernel_rfl) (fun _ => by kernel_rfl) (by kernel_rfl) (by kernel_rfl) (Nat.le_of_ble_eq_true (by kernel_rfl)) (duF_lasts A g k c i d cp mn T S Z) ?_ ?_
    · intro i o L' a w K hi ho hg hLi hout hpre houter hitem h1 h2 h3
      have hcases : i = 0 ∨ i = 1 ∨ i = 2 ∨ i = 3 ∨ i = 4 ∨ i = 5 ∨ i = 6 ∨ i = 7 ∨ i = 8 ∨ i = 9 ∨ i = 10 ∨ i = 11 := by omega
      rcases hcases with rfl | rfl | rfl | rfl | rfl | rfl | rfl | rfl | rfl | rfl | rfl | rfl
      · cases (show some _ = some o from ho)
        exact ⟨rfl, wp_move rfl (h1 ⟨_, rfl⟩ _ _ (grown_refl _ none) (houter _ rfl) (by rw [houter _ rfl]; exact nobl rfl) (by rw [houter _ rfl]; exact FreshB.none rfl))⟩
      · cases (show some _ = some o from ho)
        exact ⟨rfl, wp_move rfl (h1 ⟨_, rfl⟩ _ _ (grown_refl _ none) (houter _ rfl) (by rw [houter _ rfl]; exact nobl rfl) (by rw [houter _ rfl]; exact FreshB.none rfl))⟩
      · cases (show some _ = some o from ho)
        exact ⟨rfl, wp_move rfl (h1 ⟨_, rfl⟩ _ _ (grown_refl _ none) (houter _ rfl) (by rw [houter _ rfl]; exact nobl rfl) (by rw [houter _ rfl]; exact FreshB.none rfl))⟩
      · cases (show some _ = some o from ho)
        exact ⟨rfl, wp_move rfl (h1 ⟨_, rfl⟩ _ _ (grown_refl _ none) (houter _ rfl) (by rw [houter _ rfl]; exact nobl rfl) (by rw [houter _ rfl]; exact FreshB.none rfl))⟩
      · cases (show some _ = some o from ho)
        exact ⟨rfl, wp_move rfl (h1 ⟨_, rfl⟩ _ _ (grown_refl _ none) (houter _ rfl) (by rw [houter _ rfl]; exact nobl rfl) (by rw [houter _ rfl]; exact FreshB.none rfl))⟩
      · cases (show some _ = some o from ho)
        exact ⟨rfl, wp_slice_hi rfl (hitem 3 (by decide) ⟨hpre 3 rfl, hout _ (by decide)⟩) (hitem 4 (by decide) ⟨hpre 4 rfl, hout _ (by decide)⟩) (sl_hiH2 _ _ _ _ hdc _) (h1 ⟨_, rfl⟩ _ _ (grown_refl _ none) rfl (nobl rfl) (FreshB.none rfl))⟩
      · cases (show some _ = some o from ho)
        have x23 : a.eval (.tmp 23) = .slice A mn c := hitem 0 (by decide) ⟨hpre 0 rfl, hout _ (by decide)⟩
        have x24 : a.eval (.tmp 24) = .int .i64 (i : Int) := hitem 1 (by decide) ⟨hpre 1 rfl, hout _ (by decide)⟩
        have x25 : a.eval (.tmp 25) = .int .i64 (k : Int) := hitem 2 (by decide) ⟨hpre 2 rfl, hout _ (by decide)⟩
        have x28 : a.eval (.tmp 28) = .slice (some ⟨g, 0, none⟩) d cp := hitem 5 (by decide) ⟨hpre 5 rfl, hout _ (by decide)⟩
        refine ⟨rfl, wp_call rfl Tryd.func43 (by kernel_rfl) (by kernel_rfl) (args := #[.slice A mn c, .int .i64 (i : Int), .int .i64 (k : Int), .slice (some ⟨g, 0, none⟩) d cp]) (by simp [x23, x24, x25, x28]) ((hup w hg).mono ?_)⟩
        rintro e w' ⟨rfl, hg'⟩
        exact ⟨_, rfl, h1 ⟨_, rfl⟩ _ _ hg' rfl (nobl (blocks_bytes _)) (FreshB.none (blocks_bytes _))⟩
      · cases (show some _ = some o from ho)
        exact ⟨rfl, wp_move rfl (h1 ⟨_, rfl⟩ _ _ (grown_refl _ none) (houter _ rfl) (by rw [houter _ rfl]; exact nobl rfl) (by rw [houter _ rfl]; exact FreshB.none rfl))⟩
      · cases (show some _ = some o from ho)
        exact ⟨rfl, wp_move rfl (h1 ⟨_, rfl⟩ _ _ (grown_refl _ none) (houter _ rfl) (by rw [houter _ rfl]; exact nobl rfl) (by rw [houter _ rfl]; exact FreshB.none rfl))⟩
      · cases (show some _ = some o from ho)
        exact ⟨rfl, wp_index rfl (hitem 7 (by decide) ⟨hpre 7 rfl, hout _ (by decide)⟩) (hitem 8 (by decide) ⟨hpre 8 rfl, hout _ (by decide)⟩) (index_hs _ _ _ _ (by omega) _) (h1 ⟨_, rfl⟩ _ _ (grown_refl _ none) rfl (nobl rfl) (FreshB.none rfl))⟩
      · cases (show some _ = some o from ho)
        exact ⟨rfl, wp_load_mid 23 _ rfl g (d * 32) (hitem 9 (by decide) ⟨hpre 9 rfl, hout _ (by decide)⟩) (T.map bv) _ (hrT w hg) Tryd.underlying23 rfl (info_hash _ hTl.out) (h1 ⟨_, rfl⟩ _ _ (grown_refl _ none) rfl (nobl (blocks_bytes _)) (FreshB.none (blocks_bytes _)))⟩
      · cases (show some _ = some o from ho)
        have x29 : a.eval (.tmp 29) = (.agg (S.map bv).toArray) := hitem 6 (by decide) ⟨hpre 6 rfl, hout _ (by decide)⟩
        have x33 : a.eval (.tmp 33) = (.agg (T.map bv).toArray) := hitem 10 (by decide) ⟨hpre 10 rfl, hout _ (by decide)⟩
        refine ⟨rfl, wp_call rfl Tryd.func42 (by kernel_rfl) (by kernel_rfl) (args := #[(.agg (S.map bv).toArray), (.agg (T.map bv).toArray)]) (by simp [x29, x33]) ((hjo w (hk.kept hg)).mono ?_)⟩
        rintro e w' ⟨rfl, hg'⟩
        exact ⟨_, rfl, h1 ⟨_, rfl⟩ _ _ hg' rfl (nobl (blocks_bytes _)) (FreshB.none (blocks_bytes _))⟩
    · intro a wT hgT hend hap ha
      obtain ⟨f, hf⟩ : ∃ f : Nat → Value, f = fun t => a.tmps.getD t undef := ⟨_, rfl⟩
      have s34 : f 34 = (.agg (Z.map bv).toArray) := by rw [hf]; exact (hend 11 (by decide) (by decide)).1
      rw [← hf] at ha
      clear hend hap
      clear hf
      subst ha
      simp only [fill, duS, Nat.reduceAdd, Nat.reduceBEq, Bool.or_false, Bool.or_true, cond_true, cond_false, List.drop_succ_cons, List.drop_zero, s34]
      clear s34
      replace hb2 := keep_of hb2 hgT
      go_wp2_with (refine wpList_store_row rfl 23 _ _ rfl (w.heap.size) (Z.map bv).toArray rfl rfl 23 _ (hb2) (hashV_size Z hZl.out) (by rw [show (Z.map bv).toArray.size = 32 from by rw [List.size_toArray, List.length_map, hZl.out]]; rfl) (bv_all' _) ?_)
      refine bodyPost_ret (results_cell_row rfl _ _ (w.heap.size) 23 (Z.map bv).toArray (0, 0) _ rfl (setRow_heap _ _ _ _ _ _ (hb2)) Tryd.underlying23 rfl (hashV_size Z hZl.out)) rfl ?_
      exact ⟨rfl, grown_setRow (grown_same hgW hgT) (.inr (by omega)) _⟩
  · have hup := fun w' (h : w.grownBy w' none) => ih (n - halfN n) (by omega) (i - halfN n) d (some ⟨g, 0, none⟩) (P.take (d * 32)) cp w' (by omega) (by omega) (by have := depthN_r h2 hik; omega) (.inr ⟨g, rfl⟩) hPl hdc (hr.kept h) ((rd_takeB hrP _).kept h) (hk.kept h)
    rw [upL_take x P d _ _ _ (Nat.le_refl _)] at hup
    obtain ⟨S, hS⟩ : ∃ S, S = upL x (i - halfN n) (n - halfN n) P d := ⟨_, rfl⟩
    rw [← hS] at hup
    have hSl : Hid (S.length = 32) := by rw [hS]; exact upL_len _ _ _ _ _
    obtain ⟨Z, hZ⟩ : ∃ Z, Z = tagL 1 (T ++ S) := ⟨_, rfl⟩
    have hZl : Hid (Z.length = 32) := by rw [hZ]; exact tagL_len _ _
    have HZ : Hid (upL x i n P (d + 1) = Z) := by
      show _ = _
      rw [upL, if_neg hik, hZ, hS, hT]
    rw [HZ.out]
    have hjo := fun w' (h : Laid2 w') => join_any T S hTl.out hSl.out w' h
    rw [← hZ] at hjo
    clear hZ hS HZ hT ih hrP hr hB
    have hik2 : ¬ (i : Int) < (halfN n : Int) := by omega
    have hsub1 := fun w' => sub_nat i (halfN n) (by omega) (by omega) w'
    have hsub2 := fun w' => sub_nat n (halfN n) (by omega) (by omega) w'
    obtain ⟨i2, hi2⟩ : ∃ i2, i2 = i - halfN n := ⟨_, rfl⟩
    obtain ⟨m2, hm2⟩ : ∃ m2, m2 = n - halfN n := ⟨_, rfl⟩
    rw [← hi2, ← hm2] at hup
    rw [← hi2] at hsub1
    rw [← hm2] at hsub2
    clear hi2 hm2
    clear hd
    generalize halfN n = k at hls hk1 hk2 hsub1 hsub2 hik hik2
    obtain ⟨mn, hmn⟩ : ∃ mn, mn = x.length := ⟨_, rfl⟩
    rw [← hmn] at hup ⊢
    clear hmn
    clear hPl hP
    have el : ((d + 1 : Nat) : Int) - 1 = (d : Int) := by omega
    go_enter Tryd.func43, Tryd.ntmps43
    go_upto_region 7 with (go_at_call 41; refine (hls _).mono ?_; rintro e w5 ⟨rfl, rfl⟩)
    generalize hW : World.alloc w _ = w1
    have hb2 : w1.heap[w.heap.size]? = some (.cells (rowH []) 23 (0, 0)) := by rw [← hW]; exact alloc_at rfl
    have hgW : w.grownBy w1 none := by rw [← hW]; exact grown_alloc (grown_refl _ _) _
    clear hW
    replace hup := fun w' (h : w1.grownBy w' none) => hup w' (grown_same hgW h)
    replace hrT := fun w' (h : w1.grownBy w' none) => hrT w' (grown_same hgW h)
    replace hk := hk.kept hgW
    refine wp_region_gb (al := dvAl) 16 (N := 51) (S := dvS) (die := dvDie) (own := dvOwn) (F := dvF A g n k m2 c i i2 d cp mn T S Z) (by kernel_rfl) (Nat.le_of_ble_eq_true (by kernel_rfl)) (fun _ => by kernel_rfl) (fun _ => by kernel_rfl) (by kernel_rfl) (by kernel_rfl) (Nat.le_of_ble_eq_true (by kernel_rfl)) (dvF_lasts A g n k m2 c i i2 d cp mn T S Z) ?_ ?_
    · intro i o L' a w K hi ho hg hLi hout hpre houter hitem h1 h2 h3
      have hcases : i = 0 ∨ i = 1 ∨ i = 2 ∨ i = 3 ∨ i = 4 ∨ i = 5 ∨ i = 6 ∨ i = 7 ∨ i = 8 ∨ i = 9 ∨ i = 10 ∨ i = 11 ∨ i = 12 ∨ i = 13 ∨ i = 14 ∨ i = 15 := by omega
      rcases hcases with rfl | rfl | rfl | rfl | rfl | rfl | rfl | rfl | rfl | rfl | rfl | rfl | rfl | rfl | rfl | rfl
      · cases (show some _ = some o from ho)
        exact ⟨rfl, wp_move rfl (h1 ⟨_, rfl⟩ _ _ (grown_refl _ none) (houter _ rfl) (by rw [houter _ rfl]; exact nobl rfl) (by rw [houter _ rfl]; exact FreshB.none rfl))⟩
      · cases (show some _ = some o from ho)
        exact ⟨rfl, wp_move rfl (h1 ⟨_, rfl⟩ _ _ (grown_refl _ none) (houter _ rfl) (by rw [houter _ rfl]; exact nobl rfl) (by rw [houter _ rfl]; exact FreshB.none rfl))⟩
      · cases (show some _ = some o from ho)
        exact ⟨rfl, wp_index rfl (hitem 0 (by decide) ⟨hpre 0 rfl, hout _ (by decide)⟩) (hitem 1 (by decide) ⟨hpre 1 rfl, hout _ (by decide)⟩) (index_hs _ _ _ _ (by omega) _) (h1 ⟨_, rfl⟩ _ _ (grown_refl _ none) rfl (nobl rfl) (FreshB.none rfl))⟩
      · cases (show some _ = some o from ho)
        exact ⟨rfl, wp_load_mid 23 _ rfl g (d * 32) (hitem 2 (by decide) ⟨hpre 2 rfl, hout _ (by decide)⟩) (T.map bv) _ (hrT w hg) Tryd.underlying23 rfl (info_hash _ hTl.out) (h1 ⟨_, rfl⟩ _ _ (grown_refl _ none) rfl (nobl (blocks_bytes _)) (FreshB.none (blocks_bytes _)))⟩
      · cases (show some _ = some o from ho)
        exact ⟨rfl, wp_move rfl (h1 ⟨_, rfl⟩ _ _ (grown_refl _ none) (houter _ rfl) (by rw [houter _ rfl]; exact nobl rfl) (by rw [houter _ rfl]; exact FreshB.none rfl))⟩
      · cases (show some _ = some o from ho)
        exact ⟨rfl, wp_move rfl (h1 ⟨_, rfl⟩ _ _ (grown_refl _ none) (houter _ rfl) (by rw [houter _ rfl]; exact nobl rfl) (by rw [houter _ rfl]; exact FreshB.none rfl))⟩
      · cases (show some _ = some o from ho)
        exact ⟨rfl, wp_move rfl (h1 ⟨_, rfl⟩ _ _ (grown_refl _ none) (houter _ rfl) (by rw [houter _ rfl]; exact nobl rfl) (by rw [houter _ rfl]; exact FreshB.none rfl))⟩
      · cases (show some _ = some o from ho)
        exact ⟨rfl, wp_bin rfl (hitem 5 (by decide) ⟨hpre 5 rfl, hout _ (by decide)⟩) (hitem 6 (by decide) ⟨hpre 6 rfl, hout _ (by decide)⟩) (guard_subI _ _ _ _ _) (hsub1 _) (h1 ⟨_, rfl⟩ _ _ (grown_refl _ none) rfl (nobl rfl) (FreshB.none rfl))⟩
      · cases (show some _ = some o from ho)
        exact ⟨rfl, wp_move rfl (h1 ⟨_, rfl⟩ _ _ (grown_refl _ none) (houter _ rfl) (by rw [houter _ rfl]; exact nobl rfl) (by rw [houter _ rfl]; exact FreshB.none rfl))⟩
      · cases (show some _ = some o from ho)
        exact ⟨rfl, wp_move rfl (h1 ⟨_, rfl⟩ _ _ (grown_refl _ none) (houter _ rfl) (by rw [houter _ rfl]; exact nobl rfl) (by rw [houter _ rfl]; exact FreshB.none rfl))⟩
      · cases (show some _ = some o from ho)
        exact ⟨rfl, wp_bin rfl (hitem 8 (by decide) ⟨hpre 8 rfl, hout _ (by decide)⟩) (hitem 9 (by decide) ⟨hpre 9 rfl, hout _ (by decide)⟩) (guard_subI _ _ _ _ _) (hsub2 _) (h1 ⟨_, rfl⟩ _ _ (grown_refl _ none) rfl (nobl rfl) (FreshB.none rfl))⟩
      · cases (show some _ = some o from ho)
        exact ⟨rfl, wp_move rfl (h1 ⟨_, rfl⟩ _ _ (grown_refl _ none) (houter _ rfl) (by rw [houter _ rfl]; exact nobl rfl) (by rw [houter _ rfl]; exact FreshB.none rfl))⟩
      · cases (show some _ = some o from ho)
        exact ⟨rfl, wp_move rfl (h1 ⟨_, rfl⟩ _ _ (grown_refl _ none) (houter _ rfl) (by rw [houter _ rfl]; exact nobl rfl) (by rw [houter _ rfl]; exact FreshB.none rfl))⟩
      · cases (show some _ = some o from ho)
        exact ⟨rfl, wp_slice_hi rfl (hitem 11 (by decide) ⟨hpre 11 rfl, hout _ (by decide)⟩) (hitem 12 (by decide) ⟨hpre 12 rfl, hout _ (by decide)⟩) (sl_hiH2 _ _ _ _ hdc _) (h1 ⟨_, rfl⟩ _ _ (grown_refl _ none) rfl (nobl rfl) (FreshB.none rfl))⟩
      · cases (show some _ = some o from ho)
        have x39 : a.eval (.tmp 39) = .slice A mn c := hitem 4 (by decide) ⟨hpre 4 rfl, hout _ (by decide)⟩
        have x42 : a.eval (.tmp 42) = .int .i64 (i2 : Int) := hitem 7 (by decide) ⟨hpre 7 rfl, hout _ (by decide)⟩
        have x45 : a.eval (.tmp 45) = .int .i64 (m2 : Int) := hitem 10 (by decide) ⟨hpre 10 rfl, hout _ (by decide)⟩
        have x48 : a.eval (.tmp 48) = .slice (some ⟨g, 0, none⟩) d cp := hitem 13 (by decide) ⟨hpre 13 rfl, hout _ (by decide)⟩
        refine ⟨rfl, wp_call rfl Tryd.func43 (by kernel_rfl) (by kernel_rfl) (args := #[.slice A mn c, .int .i64 (i2 : Int), .int .i64 (m2 : Int), .slice (some ⟨g, 0, none⟩) d cp]) (by simp [x39, x42, x45, x48]) ((hup w hg).mono ?_)⟩
        rintro e w' ⟨rfl, hg'⟩
        exact ⟨_, rfl, h1 ⟨_, rfl⟩ _ _ hg' rfl (nobl (blocks_bytes _)) (FreshB.none (blocks_bytes _))⟩
      · cases (show some _ = some o from ho)
        have x38 : a.eval (.tmp 38) = (.agg (T.map bv).toArray) := hitem 3 (by decide) ⟨hpre 3 rfl, hout _ (by decide)⟩
        have x49 : a.eval (.tmp 49) = (.agg (S.map bv).toArray) := hitem 14 (by decide) ⟨hpre 14 rfl, hout _ (by decide)⟩
        refine ⟨rfl, wp_call rfl Tryd.func42 (by kernel_rfl) (by kernel_rfl) (args := #[(.agg (T.map bv).toArray), (.agg (S.map bv).toArray)]) (by simp [x38, x49]) ((hjo w (hk.kept hg)).mono ?_)⟩
        rintro e w' ⟨rfl, hg'⟩
        exact ⟨_, rfl, h1 ⟨_, rfl⟩ _ _ hg' rfl (nobl (blocks_bytes _)) (FreshB.none (blocks_bytes _))⟩
    · intro a wT hgT hend hap ha
      obtain ⟨f, hf⟩ : ∃ f : Nat → Value, f = fun t => a.tmps.getD t undef := ⟨_, rfl⟩
      have s50 : f 50 = (.agg (Z.map bv).toArray) := by rw [hf]; exact (hend 15 (by decide) (by decide)).1
      rw [← hf] at ha
      clear hend hap
      clear hf
      subst ha
      simp only [fill, dvS, Nat.reduceAdd, Nat.reduceBEq, Bool.or_false, Bool.or_true, cond_true, cond_false, List.drop_succ_cons, List.drop_zero, s50]
      clear s50
      replace hb2 := keep_of hb2 hgT
      go_wp2_with (refine wpList_store_row rfl 23 _ _ rfl (w.heap.size) (Z.map bv).toArray rfl rfl 23 _ (hb2) (hashV_size Z hZl.out) (by rw [show (Z.map bv).toArray.size = 32 from by rw [List.size_toArray, List.length_map, hZl.out]]; rfl) (bv_all' _) ?_)
      refine bodyPost_ret (results_cell_row rfl _ _ (w.heap.size) 23 (Z.map bv).toArray (0, 0) _ rfl (setRow_heap _ _ _ _ _ _ (hb2)) Tryd.underlying23 rfl (hashV_size Z hZl.out)) rfl ?_
      exact ⟨rfl, grown_setRow (grown_same hgW hgT) (.inr (by omega)) _⟩

set_option maxRecDepth 100000 in
theorem Up_no (A : Option Addr) (mx c : Nat) (i n : Int) (B : Option Addr) (d cp : Nat) (D : Int) (hdep : ∀ w, Calls Tryd.prog 22 #[.int .i64 i, .int .i64 n] w fun e w' => e = .returned (.int .i64 D) ∧ w' = w) (hne : ¬ (d : Int) = D) (w : World) :
    Calls Tryd.prog 27 #[.slice A mx c, .int .i64 i, .int .i64 n, .slice B d cp] w fun e w' => e = .returned (.tuple #[.agg (zeroH.map bv).toArray, .bool false]) ∧ w.grownBy w' none := by
  have hsz : Hid ((Tryd.prog.info? 23).map (·.size) = some (rowH []).size) := by show _ = _; rw [rowH_size _ (by simp)]; exact size_hash
  have hal : Hid ((rowH []).all (·.oneCell') = true) := by show _ = _; rw [rowZ]; exact bv_all' _
  rw [← rowZ]
  go_enter Tryd.func27, Tryd.ntmps27
  go_wp2_with (first
    | (go_at_call 22; refine (hdep _).mono ?_; rintro e w5 ⟨rfl, rfl⟩)
    | (refine wpList_store_row rfl 23 _ _ rfl (w.heap.size) (rowH []) rfl rfl 23 (rowH []) (alloc_at rfl) hsz.out rfl hal.out ?_))
  refine bodyPost_ret (results_row_tmp rfl _ _ (w.heap.size) 23 (rowH []) (0, 0) _ rfl (setRow_heap _ _ _ _ _ _ (alloc_at rfl)) Tryd.underlying23 rfl hsz.out) rfl ?_
  exact ⟨rfl, grown_setRow (grown_alloc (grown_refl _ _) _) (.inr (by omega)) _⟩
set_option maxRecDepth 100000 in
theorem Up_any (A : Option Addr) (x : List UInt8) (c : Nat) (hx : x.length ≤ 1000) (i n d : Nat) (B : Option Addr) (P : List UInt8) (cp : Nat) (w : World) (hi : i < n) (hn : n ≤ 500) (hd : d = depthN i n) (hB : d = 0 ∨ ∃ g, B = some ⟨g, 0, none⟩) (hP : P.length = d * 32) (hc : d ≤ cp) (hr : RdB w A x) (hrP : RdB w B P) (hk : Laid2 w) :
    Calls Tryd.prog 27 #[.slice A x.length c, .int .i64 (i : Int), .int .i64 (n : Int), .slice B d cp] w fun e w' => e = .returned (.tuple #[.agg ((upL x i n P d).map bv).toArray, .bool true]) ∧ w.grownBy w' none := by
  have hdep := fun w' => Depth_any i n hi (by omega) w'
  rw [← hd] at hdep
  have hup := fun w' (h : w.grownBy w' none) => up_any A x c hx n i d B P cp w' hi hn hd hB hP hc (hr.kept h) (hrP.kept h) (hk.kept h)
  obtain ⟨X, hX⟩ : ∃ X, X = upL x i n P d := ⟨_, rfl⟩
  rw [← hX] at hup ⊢
  have hXl : Hid (X.length = 32) := by rw [hX]; exact upL_len _ _ _ _ _
  obtain ⟨m, hm⟩ : ∃ m, m = x.length := ⟨_, rfl⟩
  rw [← hm] at hup ⊢
  clear hX hm hd hB hP hr hrP
  go_enter Tryd.func27, Tryd.ntmps27
  go_wp2_with (first
    | (go_at_call 22; refine (hdep _).mono ?_; rintro e w5 ⟨rfl, rfl⟩)
    | (go_at_call 43; refine (hup _ (grown_alloc (grown_refl _ _) _)).mono ?_; rintro e w6 ⟨rfl, hg6⟩)
    | (refine wpList_store_row rfl 23 _ _ rfl (w.heap.size) (X.map bv).toArray rfl rfl 23 _ (keep_of (alloc_at rfl) hg6) (hashV_size X hXl.out) (by rw [show (X.map bv).toArray.size = 32 from by rw [List.size_toArray, List.length_map, hXl.out]]; rfl) (bv_all' _) ?_))
  refine bodyPost_ret (results_row_tmp rfl _ _ (w.heap.size) 23 (X.map bv).toArray (0, 0) _ rfl (setRow_heap _ _ _ _ _ _ (keep_of (alloc_at rfl) hg6)) Tryd.underlying23 rfl (hashV_size X hXl.out)) rfl ?_
  exact ⟨rfl, grown_setRow (grown_same (grown_alloc (grown_refl _ _) _) hg6) (.inr (by omega)) _⟩
end Go.Proofs.YtohdifimfhdhoaaDoor

namespace Go.Proofs.YtohdifimfhdhoaaDoor
open Go.RowKit

theorem range_ao {w : World} {g o : Nat} {P : List UInt8} (h : RdB w (some ⟨g, o, none⟩) P) {k n : Nat} (hl : P.length = n * 32) (hk : k < n) : w.rangeAt g (o + k * 32) (((P.drop (k * 32)).take 32).map bv) := by
  obtain ⟨ad, e, hc⟩ := hash_at h hl hk
  cases e
  intro j v hv
  have := hc j v hv
  rwa [Addr.add_mid, Addr.add_mid] at this
theorem index_ho (g o n c k : Nat) (hk : k < n) (w : World) : (Instr.indexAt 24 (.slice (some ⟨g, o, none⟩) n c) (.int .i64 (k : Int))).run Tryd.prog w = .ok (.pointer (some ⟨g, o + k * 32, none⟩)) w := by
  have h := run_indexAt_slice (P := Tryd.prog) (w := w) 24 ⟨g, o, none⟩ n c .i64 (k : Int) (by kernel_rfl)
  rw [h, if_pos ⟨by omega, by omega⟩, show (sizeOf (Tryd.prog.elem 24)).run Tryd.prog w = .ok 32 w from by kernel_rfl, Result.andThen_ok, Int.toNat_natCast, Addr.add_mid]


set_option maxRecDepth 100000 in
theorem RUp_no (A : Option Addr) (mx c : Nat) (i n : Int) (B : Option Addr) (d cp : Nat) (h : i < 0 ∨ n ≤ i) (w : World) :
    Calls Tryd.prog 34 #[.slice A mx c, .int .i64 i, .int .i64 n, .slice B d cp] w fun e w' => e = .returned (.tuple #[.agg (zeroH.map bv).toArray, .bool false]) ∧ w.grownBy w' none := by
  have hsz : Hid ((Tryd.prog.info? 23).map (·.size) = some (rowH []).size) := by show _ = _; rw [rowH_size _ (by simp)]; exact size_hash
  have hal : Hid ((rowH []).all (·.oneCell') = true) := by show _ = _; rw [rowZ]; exact bv_all' _
  rw [← rowZ]
  by_cases h0 : i < 0
  · clear h
    go_enter Tryd.func34, Tryd.ntmps34
    go_wp2_with (refine wpList_store_row rfl 23 _ _ rfl (w.heap.size) (rowH []) rfl rfl 23 (rowH []) (alloc_at rfl) hsz.out rfl hal.out ?_)
    refine bodyPost_ret (results_row_tmp rfl _ _ (w.heap.size) 23 (rowH []) (0, 0) _ rfl (setRow_heap _ _ _ _ _ _ (alloc_at rfl)) Tryd.underlying23 rfl hsz.out) rfl ?_
    exact ⟨rfl, grown_setRow (grown_alloc (grown_refl _ _) _) (.inr (by omega)) _⟩
  · have h1 : n ≤ i := by omega
    clear h
    go_enter Tryd.func34, Tryd.ntmps34
    go_wp2_with (refine wpList_store_row rfl 23 _ _ rfl (w.heap.size) (rowH []) rfl rfl 23 (rowH []) (alloc_at rfl) hsz.out rfl hal.out ?_)
    refine bodyPost_ret (results_row_tmp rfl _ _ (w.heap.size) 23 (rowH []) (0, 0) _ rfl (setRow_heap _ _ _ _ _ _ (alloc_at rfl)) Tryd.underlying23 rfl hsz.out) rfl ?_
    exact ⟨rfl, grown_setRow (grown_alloc (grown_refl _ _) _) (.inr (by omega)) _⟩
def eaS (t : Nat) : Bool := t == 10 || t == 11 || t == 40 || t == 41 || t == 42 || t == 43 || t == 44 || t == 45 || t == 46 || t == 47
def eaDie (_ : Nat) : Nat := 99
def eaOwn (k : Nat) : Bool := k == 8
def eaAl (k : Nat) : Bool := k == 2 || k == 3 || k == 8
def eaF (g o n k d cp : Nat) (T : List UInt8) : Nat → Value → World → Prop
  | 0 => fun v _ => v = .int .i64 (n : Int)
  | 1 => fun v _ => v = .int .i64 (k : Int)
  | 2 => fun v _ => v = .slice (some ⟨g, o, none⟩) (d + 1) cp
  | 3 => fun v _ => v = .slice (some ⟨g, o, none⟩) (d + 1) cp
  | 4 => fun v _ => v = .int .i64 ((d + 1 : Nat) : Int)
  | 5 => fun v _ => v = .int .i64 (d : Int)
  | 6 => fun v _ => v = .pointer (some ⟨g, o + d * 32, none⟩)
  | 7 => fun v _ => v = (.agg (T.map bv).toArray)
  | 8 => Made (rowH []) 23
  | 9 => fun v _ => v = .int .i64 (k : Int)
  | _ => fun _ _ => True
theorem eaF_lasts (g o n k d cp : Nat) (T : List UInt8) : ∀ kq, LastsB eaAl kq (eaF g o n k d cp T kq)
  | 0 => LastsB.val _
  | 1 => LastsB.val _
  | 2 => LastsB.val _
  | 3 => LastsB.val _
  | 4 => LastsB.val _
  | 5 => LastsB.val _
  | 6 => LastsB.val _
  | 7 => LastsB.val _
  | 8 => LastsB.made rfl _ _
  | 9 => LastsB.val _
  | _ + 10 => fun _ _ _ _ _ _ _ => trivial
def ebS (t : Nat) : Bool := t == 63 || t == 64 || t == 65 || t == 66 || t == 67
def ebDie (_ : Nat) : Nat := 99
def ebOwn (_ : Nat) : Bool := false
def ebAl (k : Nat) : Bool := k == 0 || k == 1
def ebF (g2 g3 : Nat) (X Y Z : List UInt8) (b : Bool) : Nat → Value → World → Prop
  | 0 => fun v _ => v = .slice (some ⟨g2, 0, none⟩) 32 32
  | 1 => fun v _ => v = .slice (some ⟨g3, 0, none⟩) 32 32
  | 2 => Part2 (hp g2 X) (hp g3 Y)
  | 3 => fun v _ => v = (.agg (Z.map bv).toArray)
  | 4 => fun v _ => v = .bool b
  | _ => fun _ _ => True
theorem ebF_lasts (g2 g3 : Nat) (X Y Z : List UInt8) (b : Bool) : ∀ kq, LastsB ebAl kq (ebF g2 g3 X Y Z b kq)
  | 0 => LastsB.val _
  | 1 => LastsB.val _
  | 2 => LastsB.part2 rfl _ _
  | 3 => LastsB.val _
  | 4 => LastsB.val _
  | _ + 5 => fun _ _ _ _ _ _ _ => trivial
def ecS (t : Nat) : Bool := t == 84 || t == 85 || t == 86 || t == 87 || t == 88
def ecDie (_ : Nat) : Nat := 99
def ecOwn (_ : Nat) : Bool := false
def ecAl (k : Nat) : Bool := k == 0 || k == 1
def ecF (g2 g3 : Nat) (X Y Z : List UInt8) (b : Bool) : Nat → Value → World → Prop
  | 0 => fun v _ => v = .slice (some ⟨g2, 0, none⟩) 32 32
  | 1 => fun v _ => v = .slice (some ⟨g3, 0, none⟩) 32 32
  | 2 => Part2 (hp g2 X) (hp g3 Y)
  | 3 => fun v _ => v = (.agg (Z.map bv).toArray)
  | 4 => fun v _ => v = .bool b
  | _ => fun _ _ => True
theorem ecF_lasts (g2 g3 : Nat) (X Y Z : List UInt8) (b : Bool) : ∀ kq, LastsB ecAl kq (ecF g2 g3 X Y Z b kq)
  | 0 => LastsB.val _
  | 1 => LastsB.val _
  | 2 => LastsB.part2 rfl _ _
  | 3 => LastsB.val _
  | 4 => LastsB.val _
  | _ + 5 => fun _ _ _ _ _ _ _ => trivial

set_option maxRecDepth 100000 in
set_option maxHeartbeats 4000000 in
theorem RUp_off (A : Option Addr) (x : List UInt8) (c : Nat) (hx : x.length ≤ 1000) : ∀ (n i d : Nat) (B : Option Addr) (P : List UInt8) (cp : Nat) (w0 : World), i < n → n ≤ 500 → d ≤ 1000 → (d = 0 ∨ ∃ g o, B = some ⟨g, o, none⟩) → P.length = d * 32 → d ≤ cp → RdB w0 A x → RdB w0 B P →
    Calls Tryd.prog 34 #[.slice A x.length c, .int .i64 (i : Int), .int .i64 (n : Int), .slice B d cp] w0 fun e w' => ∃ Z : List UInt8, Z.length = 32 ∧ (d = depthN i n → Z = upL x i n P d) ∧ e = .returned (.tuple #[.agg (Z.map bv).toArray, .bool (decide (d = depthN i n))]) ∧ w0.grownBy w' none := by
  intro n
  induction n using Nat.strongRecOn with
  | ind n ih =>
  intro i d B P cp w0 hi h5 hd hB hP hc hr hrP
  have i0 : ¬ (i : Int) < 0 := by omega
  have i1 : ¬ (n : Int) ≤ (i : Int) := by omega
  have i2 : ¬ (1048576 : Int) < (n : Int) := by omega
  by_cases h1 : n = 1
  · subst h1
    rw [depthN_1 (Nat.le_refl _)]
    have htag := fun A' w' (h3 : RdP w' A' [(A, x, c)]) => RTagged_any 0 A' [(A, x, c)] 1 w' h3 (by simp [catP]; omega) (by simp)
    obtain ⟨X, hX⟩ : ∃ X, X = tagL 0 (catP [(A, x, c)]) := ⟨_, rfl⟩
    rw [← hX] at htag
    have HX : Hid (X = tagL 0 x) := by show _ = _; rw [hX]; simp [catP]
    have hXl : Hid (X.length = 32) := by rw [hX]; exact tagL_len _ _
    obtain ⟨m, hm⟩ : ∃ m, m = x.length := ⟨_, rfl⟩
    rw [← hm]
    have hpv : Hid (pv (A, x, c) = .slice A m c) := by show _ = _; rw [hm]; rfl
    clear hX hm ih hB hP hc i1 i2
    change ∀ A' w', RdP w' A' _ → Calls Tryd.prog 16 #[.int .u8 0, .slice A' 1 1] w' _ at htag
    by_cases hd0 : d = 0
    · subst hd0
      go_enter Tryd.func34, Tryd.ntmps34
      go_wp2_with (first
        | (go_at_call 16; refine (htag _ _ (rdP_kept1 (by rw [hpv.out]; exact rd_row (cs := [_]) (alloc_at (by simp))) ((hr.alloc _).alloc _))).mono ?_; rintro e w6 ⟨rfl, hg6⟩)
        | (refine wpList_store_row rfl 23 _ _ rfl (w0.heap.size) (X.map bv).toArray rfl rfl 23 _ (keep_of (alloc_old (alloc_at rfl)) hg6) (hashV_size X hXl.out) (by rw [show (X.map bv).toArray.size = 32 from by rw [List.size_toArray, List.length_map, hXl.out]]; rfl) (bv_all' _) ?_))
      refine bodyPost_ret (results_row_tmp rfl _ _ (w0.heap.size) 23 (X.map bv).toArray (0, 0) _ rfl (setRow_heap _ _ _ _ _ _ (keep_of (alloc_old (alloc_at rfl)) hg6)) Tryd.underlying23 rfl (hashV_size X hXl.out)) rfl ?_
      exact ⟨X, hXl.out, fun _ => by rw [HX.out]; rfl, rfl, grown_setRow (grown_same (grown_alloc (grown_alloc (grown_refl _ _) _) _) hg6) (.inr (by omega)) _⟩
    · have hd1 : ¬ (d : Int) = 0 := by omega
      have hbq : Hid (((d : Int) == 0) = false) := by show _ = _; rw [beq_eq_false_iff_ne]; exact hd1
      go_enter Tryd.func34, Tryd.ntmps34
      go_wp2_with (first
        | (go_at_call 16; refine (htag _ _ (rdP_kept1 (by rw [hpv.out]; exact rd_row (cs := [_]) (alloc_at (by simp))) ((hr.alloc _).alloc _))).mono ?_; rintro e w6 ⟨rfl, hg6⟩)
        | (refine wpList_store_row rfl 23 _ _ rfl (w0.heap.size) (X.map bv).toArray rfl rfl 23 _ (keep_of (alloc_old (alloc_at rfl)) hg6) (hashV_size X hXl.out) (by rw [show (X.map bv).toArray.size = 32 from by rw [List.size_toArray, List.length_map, hXl.out]]; rfl) (bv_all' _) ?_))
      refine bodyPost_ret (results_row_tmp rfl _ _ (w0.heap.size) 23 (X.map bv).toArray (0, 0) _ rfl (setRow_heap _ _ _ _ _ _ (keep_of (alloc_old (alloc_at rfl)) hg6)) Tryd.underlying23 rfl (hashV_size X hXl.out)) rfl ?_
      exact ⟨X, hXl.out, fun h => absurd h hd0, by rw [decide_eq_false hd0, ← hbq.out]; rfl, grown_setRow (grown_same (grown_alloc (grown_alloc (grown_refl _ _) _) _) hg6) (.inr (by omega)) _⟩
  have h2 : 2 ≤ n := by omega
  have n1 : ¬ (n : Int) = 1 := by omega
  by_cases hd0 : d = 0
  · subst hd0
    have hsz : Hid ((Tryd.prog.info? 23).map (·.size) = some (rowH []).size) := by show _ = _; rw [rowH_size _ (by simp)]; exact size_hash
    have hal : Hid ((rowH []).all (·.oneCell') = true) := by show _ = _; rw [rowZ]; exact bv_all' _
    have hne : ¬ 0 = depthN i n := by have := depthN_pos (i := i) h2; omega
    have HF : Hid (decide (0 = depthN i n) = false) := decide_eq_false hne
    have HE := Lib.hid hne
    rw [HF.out]
    clear ih hB hP hc hne HF
    go_enter Tryd.func34, Tryd.ntmps34
    go_wp2_with (refine wpList_store_row rfl 23 _ _ rfl (w0.heap.size) (rowH []) rfl rfl 23 (rowH []) (alloc_at rfl) hsz.out rfl hal.out ?_)
    refine bodyPost_ret (results_row_tmp rfl _ _ (w0.heap.size) 23 (rowH []) (0, 0) _ rfl (setRow_heap _ _ _ _ _ _ (alloc_at rfl)) Tryd.underlying23 rfl hsz.out) rfl ?_
    exact ⟨zeroH, zeroH_len, fun h => absurd h HE.out, by rw [← rowZ]; rfl, grown_setRow (grown_alloc (grown_refl _ _) _) (.inr (by omega)) _⟩
  obtain ⟨d, rfl⟩ : ∃ e, d = e + 1 := ⟨d - 1, by omega⟩
  obtain ⟨g, o, rfl⟩ : ∃ g o, B = some ⟨g, o, none⟩ := by
    rcases hB with h | h
    · omega
    · exact h
  have hls0 := fun w' => half_any n h2 (by omega) w'
  have hls : ∀ w', Calls Tryd.prog 48 #[.int .i64 (n : Int)] w' fun e w'' => e = .returned (.int .i64 (halfN n : Int)) ∧ w'.grownBy w'' none := fun w' => (hls0 w').mono fun e w'' h => ⟨h.1, by rw [h.2]; exact grown_refl _ _⟩
  have hk1 := halfN_pos n
  have hk2 := halfN_lt h2
  have hdc : d ≤ cp := by omega
  have hPl : (P.take (d * 32)).length = d * 32 := by rw [List.length_take]; omega
  obtain ⟨T, hT⟩ : ∃ T, T = (P.drop (d * 32)).take 32 := ⟨_, rfl⟩
  have hTl : Hid (T.length = 32) := by show _ = _; rw [hT, List.length_take, List.length_drop]; omega
  have hrT := fun w' (h : w0.grownBy w' none) => range_ao (hrP.kept h) hP (show d < d + 1 by omega)
  rw [← hT] at hrT
  have hsub1 : ∀ w', (binOp .sub 3 (.int .i64 ((d + 1 : Nat) : Int)) (.int .i64 1)).run Tryd.prog w' = .ok (.int .i64 (d : Int)) w' := fun w' => by
    have := sub_nat (d + 1) 1 (by omega) (by omega) w'
    exact this
  have el : ((d + 1 : Nat) : Int) - 1 = (d : Int) := by omega
  have el2 : ¬ ((d + 1 : Nat) : Int) = 0 := by omega
  clear hls0 hd0 hB hc
  by_cases hik : i < halfN n
  · have hup := fun w' (h : w0.grownBy w' none) => ih (halfN n) hk2 i d (some ⟨g, o, none⟩) (P.take (d * 32)) cp w' hik (by omega) (by omega) (.inr ⟨g, o, rfl⟩) hPl hdc (hr.kept h) ((rd_takeB hrP _).kept h)
    rw [upL_take x P d _ _ _ (Nat.le_refl _)] at hup
    have HD : Hid (decide (d + 1 = depthN i n) = decide (d = depthN i (halfN n))) := by
      show _ = _
      rw [depthN_l h2 hik, Nat.add_comm 1, decide_eq_decide]
      omega
    have HU : Hid (∀ S Z, (d = depthN i (halfN n) → S = upL x i (halfN n) P d) → Z = tagL 1 (S ++ T) → d + 1 = depthN i n → Z = upL x i n P (d + 1)) := by
      intro S Z hS hZ hd
      rw [depthN_l h2 hik] at hd
      rw [hZ, hS (by omega), upL, if_pos hik, hT]
    obtain ⟨b, hb⟩ : ∃ b, b = decide (d = depthN i (halfN n)) := ⟨_, rfl⟩
    rw [← hb] at hup
    have HB := Lib.hid hb
    have hik2 : (i : Int) < (halfN n : Int) := by omega
    clear hT ih hrP hr hb
    obtain ⟨up, hupq⟩ : ∃ q : Prop, q = True := ⟨_, rfl⟩
    obtain ⟨k, hkk⟩ : ∃ k, k = halfN n := ⟨_, rfl⟩
    rw [← hkk] at hls hk1 hk2 hup hik2 HU
    clear hkk hik hupq up
    obtain ⟨mn, hmn⟩ : ∃ mn, mn = x.length := ⟨_, rfl⟩
    rw [← hmn] at hup ⊢
    clear hmn hPl hP
    go_enter Tryd.func34, Tryd.ntmps34
    go_upto_region 7 with fail
    generalize hW : World.alloc w0 _ = w1
    have hb8 : w1.heap[w0.heap.size]? = some (.cells (rowH []) 23 (0, 0)) := by rw [← hW]; exact alloc_at rfl
    have hgW : w0.grownBy w1 none := by rw [← hW]; exact grown_alloc (grown_refl _ _) _
    clear hW
    replace hup := fun w' (h : w1.grownBy w' none) => hup w' (grown_same hgW h)
    replace hrT := fun w' (h : w1.grownBy w' none) => hrT w' (grown_same hgW h)
    refine wp_region_gb (al := eaAl) 10 (N := 89) (S := eaS) (die := eaDie) (own := eaOwn) (F := eaF g o n k d cp T) (by kernel_rfl) (Nat.le_of_ble_eq_true (by kernel_rfl)) (fun _ => by kernel_rfl) (fun _ => by kernel_rfl) (by kernel_rfl) (by kernel_rfl) (Nat.le_of_ble_eq_true (by kernel_rfl)) (eaF_lasts g o n k d cp T) ?_ ?_
    · intro i o L' a w K hi ho hg hLi hout hpre houter hitem h1 h2 h3
      have hcases : i = 0 ∨ i = 1 ∨ i = 2 ∨ i = 3 ∨ i = 4 ∨ i = 5 ∨ i = 6 ∨ i = 7 ∨ i = 8 ∨ i = 9 := by omega
      rcases hcases with rfl | rfl | rfl | rfl | rfl | rfl | rfl | rfl | rfl | rfl
      · cases (show some _ = some o from ho)
        exact ⟨rfl, wp_move rfl (h1 ⟨_, rfl⟩ _ _ (grown_refl _ none) (houter _ rfl) (by rw [houter _ rfl]; exact nobl rfl) (by rw [houter _ rfl]; exact FreshB.none rfl))⟩
      · cases (show some _ = some o from ho)
        have x40 : a.eval (.tmp 40) = .int .i64 (n : Int) := hitem 0 (by decide) ⟨hpre 0 rfl, hout _ (by decide)⟩
        refine ⟨rfl, wp_call rfl Tryd.func48 (by kernel_rfl) (by kernel_rfl) (args := #[.int .i64 (n : Int)]) (by simp [x40]) ((hls w).mono ?_)⟩
        rintro e w' ⟨rfl, hg'⟩
        exact ⟨_, rfl, h1 ⟨_, rfl⟩ _ _ hg' rfl (nobl rfl) (FreshB.none rfl)⟩
      · cases (show some _ = some o from ho)
        exact ⟨rfl, wp_move rfl (h1 ⟨_, rfl⟩ _ _ (grown_refl _ none) (houter _ rfl) (by rw [houter _ rfl]; exact nobl rfl) (by rw [houter _ rfl]; exact FreshB.none rfl))⟩
      · cases (show some _ = some o from ho)
        exact ⟨rfl, wp_move rfl (h1 ⟨_, rfl⟩ _ _ (grown_refl _ none) (houter _ rfl) (by rw [houter _ rfl]; exact nobl rfl) (by rw [houter _ rfl]; exact FreshB.none rfl))⟩
      · cases (show some _ = some o from ho)
        exact ⟨rfl, wp_len rfl (by kernel_rfl) (hitem 3 (by decide) ⟨hpre 3 rfl, hout _ (by decide)⟩) (h1 ⟨_, rfl⟩ _ _ (grown_refl _ none) rfl (nobl rfl) (FreshB.none rfl))⟩
      · cases (show some _ = some o from ho)
        exact ⟨rfl, wp_bin rfl (hitem 4 (by decide) ⟨hpre 4 rfl, hout _ (by decide)⟩) rfl (guard_subI _ _ _ _ _) (hsub1 _) (h1 ⟨_, rfl⟩ _ _ (grown_refl _ none) rfl (nobl rfl) (FreshB.none rfl))⟩
      · cases (show some _ = some o from ho)
        exact ⟨rfl, wp_index rfl (hitem 2 (by decide) ⟨hpre 2 rfl, hout _ (by decide)⟩) (hitem 5 (by decide) ⟨hpre 5 rfl, hout _ (by decide)⟩) (index_ho _ _ _ _ _ (by omega) _) (h1 ⟨_, rfl⟩ _ _ (grown_refl _ none) rfl (nobl rfl) (FreshB.none rfl))⟩
      · cases (show some _ = some o from ho)
        exact ⟨rfl, wp_load_mid 23 _ rfl g (o + d * 32) (hitem 6 (by decide) ⟨hpre 6 rfl, hout _ (by decide)⟩) (T.map bv) _ (hrT w hg) Tryd.underlying23 rfl (info_hash _ hTl.out) (h1 ⟨_, rfl⟩ _ _ (grown_refl _ none) rfl (nobl (blocks_bytes _)) (FreshB.none (blocks_bytes _)))⟩
      · cases (show some _ = some o from ho)
        exact ⟨rfl, wp_alloc rfl (alloc_H _) (h1 ⟨_, rfl⟩ _ _ (grown_alloc (grown_refl _ _) _) ⟨_, rfl, heap_alloc_new _ _⟩ (new_lt _ _) (FreshB.new (new_ge _)))⟩
      · cases (show some _ = some o from ho)
        have hx := hitem 1 (by decide) ⟨hpre 1 rfl, hout _ (by decide)⟩
        exact ⟨rfl, wp_assign rfl (h1 ⟨_, rfl⟩ _ _ (grown_refl _ none) hx (by rw [show a.eval (.tmp 41) = .int .i64 (k : Int) from hx]; exact nobl rfl) (by rw [show a.eval (.tmp 41) = .int .i64 (k : Int) from hx]; exact FreshB.none rfl))⟩
    · intro a wT hgT hend hap ha
      obtain ⟨f, hf⟩ : ∃ f : Nat → Value, f = fun t => a.tmps.getD t undef := ⟨_, rfl⟩
      have s47 : f 47 = (.agg (T.map bv).toArray) := by rw [hf]; exact (hend 7 (by decide) (by decide)).1
      obtain ⟨⟨b11, q11, hh11⟩, fr11⟩ := hend 8 (by decide) (by decide)
      have f11 : w1.heap.size ≤ b11 := fr11 rfl b11 (by rw [q11]; exact List.mem_singleton.2 rfl)
      have s11 := (congrFun hf 11).trans q11
      have s10 : f 10 = .int .i64 (k : Int) := by rw [hf]; exact (hend 9 (by decide) (by decide)).1
      rw [← hf] at ha
      clear hend hap
      clear hf
      clear q11 fr11
      subst ha
      simp only [fill, eaS, Nat.reduceAdd, Nat.reduceBEq, Bool.or_false, Bool.or_true, cond_true, cond_false, List.drop_succ_cons, List.drop_zero, s47, s11, s10]
      clear s47 s11 s10
      have hgs : wT.grownBy (wT.setRow b11 (T.map bv).toArray) (some b11) := grown_setRow (grown_refl _ _) (.inl rfl) _
      have hb11 : (wT.setRow b11 (T.map bv).toArray).heap[b11]? = some (.cells (T.map bv).toArray 23 (0, 0)) := setRow_heap _ _ _ _ _ _ hh11
      replace hb8 : (wT.setRow b11 (T.map bv).toArray).heap[w0.heap.size]? = some (.cells (rowH []) 23 (0, 0)) := (setRow_other _ _ _ _ (by have := lt_of_heap hb8; omega)).trans (keep_of hb8 hgT)
      have hgB : w1.grownBy (wT.setRow b11 (T.map bv).toArray) none := grown_trans hgT hgs (.inr fun g e => by cases e; exact f11)
      clear hgs hrT hls
      go_upto_region 10 with (first
        | (refine wpList_store_row rfl 23 _ _ rfl b11 (T.map bv).toArray rfl rfl 23 _ hh11 (hashV_size T hTl.out) (by rw [rowH_size _ (by simp), List.size_toArray, List.length_map, hTl.out]) (bv_all' _) ?_; generalize wT.setRow b11 _ = w2 at hb8 hb11 hgB ⊢)
        | (go_at_call 34; refine (hup _ hgB).mono ?_; rintro e w6 ⟨S, hS, hSu, rfl, hg6⟩; have hSl := Lib.hid hS; have HSU := Lib.hid hSu; clear hS hSu)
        | (refine wpList_store_row rfl 23 _ _ rfl (w6.heap.size) (S.map bv).toArray rfl rfl 23 _ (alloc_at rfl) (hashV_size S hSl.out) (by rw [show (S.map bv).toArray.size = 32 from by rw [List.size_toArray, List.length_map, hSl.out]]; rfl) (bv_all' _) ?_; generalize hw3 : World.setRow _ _ _ = w3; have HW3 := new_hash hw3; clear hw3))
      have hg3 : w1.grownBy w3 none := grown_same hgB (grown_same hg6 HW3.2)
      have hg63 := HW3.2
      have hb2 := HW3.1
      have hb3 := keep_of (keep_of hb11 hg6) hg63
      replace hb8 := keep_of (keep_of hb8 hg6) hg63
      clear HW3 hb11 hgB hup hg6 hg63
      generalize w6.heap.size = g12 at hb2 ⊢
      obtain ⟨g11, hg11⟩ : ∃ g11, g11 = b11 := ⟨_, rfl⟩
      rw [← hg11] at hb3 ⊢
      clear hg11
      obtain ⟨Z, hz⟩ : ∃ Z, Z = tagL 1 (S ++ T) := ⟨_, rfl⟩
      have hZl : Hid (Z.length = 32) := by rw [hz]; exact tagL_len _ _
      have hZ := Lib.hid hz
      clear hz
      refine wp_region_gs (al := ebAl) 5 (N := 89) (S := ebS) (die := ebDie) (own := ebOwn) (F := ebF g12 g11 S T Z b) (fun i => i == 4) (fun w9 => w9.setRow w0.heap.size (Z.map bv).toArray) _ rfl rfl (by kernel_rfl) (Nat.le_of_ble_eq_true (by kernel_rfl)) (fun _ => by kernel_rfl) (fun _ => by kernel_rfl) (by kernel_rfl) (by kernel_rfl) (by kernel_rfl) (by kernel_rfl) (Nat.le_of_ble_eq_true (by kernel_rfl)) (ebF_lasts g12 g11 S T Z b) ?_ ?_ ?_ ?_
      · intro i hi hl
        have hcases : i = 4 := by simpa using hl
        rcases hcases with rfl
        · exact ⟨_, _, .bool b, rfl, rfl, rfl, ⟨_, rfl⟩, fun a h => (h _ rfl).trans rfl, fun _ => rfl, rfl⟩
      · intro i o L' a w K hi ho hg hLi hout hpre houter hitem h1 h2 h3
        have hcases : i = 0 ∨ i = 1 ∨ i = 2 ∨ i = 3 ∨ i = 4 := by omega
        rcases hcases with rfl | rfl | rfl | rfl | rfl
        · cases (show some _ = some o from ho)
          exact ⟨rfl, wp_slice_all rfl (houter 12 rfl) (sl_arr _ _ _) (h1 ⟨_, rfl⟩ _ _ (grown_refl _ none) rfl (nobl rfl) (FreshB.none rfl))⟩
        · cases (show some _ = some o from ho)
          exact ⟨rfl, wp_slice_all rfl (houter 11 rfl) (sl_arr _ _ _) (h1 ⟨_, rfl⟩ _ _ (grown_refl _ none) rfl (nobl rfl) (FreshB.none rfl))⟩
        · cases (show some _ = some o from ho)
          exact ⟨rfl, wp_lit2 rfl ((show a.eval (.tmp 63) = .slice (some ⟨g12, 0, none⟩) 32 32 from hitem 0 (by decide) ⟨hpre 0 rfl, hout _ (by decide)⟩).trans (pv_hp hSl.out)) ((show a.eval (.tmp 64) = .slice (some ⟨g11, 0, none⟩) 32 32 from hitem 1 (by decide) ⟨hpre 1 rfl, hout _ (by decide)⟩).trans (pv_hp hTl.out)) (lit_p2 _ _ _) (h1 ⟨_, rfl⟩ _ _ (grown_alloc (grown_refl _ _) _) ⟨_, rfl, rd_row (cs := [_, _]) (heap_alloc_new _ _)⟩ (new_lt _ _) (FreshB.new (new_ge _)))⟩
        · cases (show some _ = some o from ho)
          obtain ⟨b, e1, h4⟩ := hitem 2 (by decide) ⟨hpre 2 rfl, hout _ (by decide)⟩
          exact ⟨rfl, wp_rtag (t := 1) (ps := [hp g12 S, hp g11 T]) (l := S ++ T) rfl rfl e1 (rd_hp2 h4 (keep_of hb2 hg) (keep_of hb3 hg)) rfl (cat_hp2 _ _ _ _) (by rw [List.length_append, hSl.out, hTl.out]; omega) (by simp) (fun w' hg' => by rw [← hZ.out]; exact h1 ⟨_, rfl⟩ _ _ hg' rfl (nobl (blocks_bytes _)) (FreshB.none (blocks_bytes _)))⟩
        · cases (show some _ = some o from ho)
          exact ⟨rfl, wp_move rfl (h1 ⟨_, rfl⟩ _ _ (grown_refl _ none) (houter _ rfl) (by rw [houter _ rfl]; exact nobl rfl) (by rw [houter _ rfl]; exact FreshB.none rfl))⟩
      · intro a w K hg hout hit hK
        exact ⟨rfl, wp_store_row 23 _ _ rfl (w0.heap.size) (Z.map bv).toArray (hout 8 rfl) (hit 3 (by decide) rfl (by decide)) 23 _ (keep_of hb8 hg) (hashV_size Z (hZl.out)) (by rw [rowH_size _ (by simp), List.size_toArray, List.length_map, hZl.out]) (bv_all' _) (hK _)⟩
      · intro a wT hgT hend hap ha
        obtain ⟨f, hf⟩ : ∃ f : Nat → Value, f = fun t => a.tmps.getD t undef := ⟨_, rfl⟩
        have s67 : f 67 = .bool b := by rw [hf]; exact (hend 4 (by decide) (by decide)).1
        rw [← hf] at ha
        clear hend hap
        clear hf
        subst ha
        simp only [fill, ebS, Nat.reduceAdd, Nat.reduceBEq, Bool.or_false, Bool.or_true, cond_true, cond_false, List.drop_succ_cons, List.drop_zero, s67]
        clear s67
        replace hb8 := keep_of hb8 hgT
        go_wp2_with fail
        refine bodyPost_ret (results_row_tmp rfl _ _ (w0.heap.size) 23 (Z.map bv).toArray (0, 0) _ rfl (setRow_heap _ _ _ _ _ _ hb8) Tryd.underlying23 rfl (hashV_size Z hZl.out)) rfl ?_
        exact ⟨Z, hZl.out, fun h => HU.out S Z HSU.out hZ.out h, (by rw [HD.out, ← HB.out]; rfl), grown_setRow (grown_same (grown_same hgW hg3) hgT) (.inr (by omega)) _⟩
  · have hup := fun w' (h : w0.grownBy w' none) => ih (n - halfN n) (by omega) (i - halfN n) d (some ⟨g, o, none⟩) (P.take (d * 32)) cp w' (by omega) (by omega) (by omega) (.inr ⟨g, o, rfl⟩) hPl hdc (hr.kept h) ((rd_takeB hrP _).kept h)
    rw [upL_take x P d _ _ _ (Nat.le_refl _)] at hup
    have HD : Hid (decide (d + 1 = depthN i n) = decide (d = depthN (i - halfN n) (n - halfN n))) := by
      show _ = _
      rw [depthN_r h2 hik, Nat.add_comm 1, decide_eq_decide]
      omega
    have HU : Hid (∀ S Z, (d = depthN (i - halfN n) (n - halfN n) → S = upL x (i - halfN n) (n - halfN n) P d) → Z = tagL 1 (T ++ S) → d + 1 = depthN i n → Z = upL x i n P (d + 1)) := by
      intro S Z hS hZ hd
      rw [depthN_r h2 hik] at hd
      rw [hZ, hS (by omega), upL, if_neg hik, hT]
    obtain ⟨b, hb⟩ : ∃ b, b = decide (d = depthN (i - halfN n) (n - halfN n)) := ⟨_, rfl⟩
    rw [← hb] at hup
    have HB := Lib.hid hb
    have hik2 : ¬ (i : Int) < (halfN n : Int) := by omega
    clear hT ih hrP hr hb
    have hsb1 : wrap64 ((i : Int) - (halfN n : Int)) = ((i - halfN n : Nat) : Int) := by rw [show ((i - halfN n : Nat) : Int) = (i : Int) - (halfN n : Int) by omega]; exact IntWalk.wrap64_in _ ⟨by omega, by omega⟩
    have hsb2 : wrap64 ((n : Int) - (halfN n : Int)) = ((n - halfN n : Nat) : Int) := by rw [show ((n - halfN n : Nat) : Int) = (n : Int) - (halfN n : Int) by omega]; exact IntWalk.wrap64_in _ ⟨by omega, by omega⟩
    have hsb3 : (i : Int) - (halfN n : Int) = ((i - halfN n : Nat) : Int) := by omega
    have hsb4 : (n : Int) - (halfN n : Int) = ((n - halfN n : Nat) : Int) := by omega
    obtain ⟨up, hupq⟩ : ∃ q : Prop, q = True := ⟨_, rfl⟩
    obtain ⟨k, hkk⟩ : ∃ k, k = halfN n := ⟨_, rfl⟩
    rw [← hkk] at hls hk1 hk2 hup hik2 HU hsb1 hsb2 hsb3 hsb4
    obtain ⟨i2, hi2⟩ : ∃ i2, i2 = i - k := ⟨_, rfl⟩
    obtain ⟨n2, hn2⟩ : ∃ n2, n2 = n - k := ⟨_, rfl⟩
    rw [← hi2, ← hn2] at hup HU
    rw [← hi2] at hsb1 hsb3
    rw [← hn2] at hsb2 hsb4
    clear hi2 hn2
    clear hkk hik hupq up
    obtain ⟨mn, hmn⟩ : ∃ mn, mn = x.length := ⟨_, rfl⟩
    rw [← hmn] at hup ⊢
    clear hmn hPl hP
    go_enter Tryd.func34, Tryd.ntmps34
    go_upto_region 7 with fail
    generalize hW : World.alloc w0 _ = w1
    have hb8 : w1.heap[w0.heap.size]? = some (.cells (rowH []) 23 (0, 0)) := by rw [← hW]; exact alloc_at rfl
    have hgW : w0.grownBy w1 none := by rw [← hW]; exact grown_alloc (grown_refl _ _) _
    clear hW
    replace hup := fun w' (h : w1.grownBy w' none) => hup w' (grown_same hgW h)
    replace hrT := fun w' (h : w1.grownBy w' none) => hrT w' (grown_same hgW h)
    refine wp_region_gb (al := eaAl) 10 (N := 89) (S := eaS) (die := eaDie) (own := eaOwn) (F := eaF g o n k d cp T) (by kernel_rfl) (Nat.le_of_ble_eq_true (by kernel_rfl)) (fun _ => by kernel_rfl) (fun _ => by kernel_rfl) (by kernel_rfl) (by kernel_rfl) (Nat.le_of_ble_eq_true (by kernel_rfl)) (eaF_lasts g o n k d cp T) ?_ ?_
    · intro i o L' a w K hi ho hg hLi hout hpre houter hitem h1 h2 h3
      have hcases : i = 0 ∨ i = 1 ∨ i = 2 ∨ i = 3 ∨ i = 4 ∨ i = 5 ∨ i = 6 ∨ i = 7 ∨ i = 8 ∨ i = 9 := by omega
      rcases hcases with rfl | rfl | rfl | rfl | rfl | rfl | rfl | rfl | rfl | rfl
      · cases (show some _ = some o from ho)
        exact ⟨rfl, wp_move rfl (h1 ⟨_, rfl⟩ _ _ (grown_refl _ none) (houter _ rfl) (by rw [houter _ rfl]; exact nobl rfl) (by rw [houter _ rfl]; exact FreshB.none rfl))⟩
      · cases (show some _ = some o from ho)
        have x40 : a.eval (.tmp 40) = .int .i64 (n : Int) := hitem 0 (by decide) ⟨hpre 0 rfl, hout _ (by decide)⟩
        refine ⟨rfl, wp_call rfl Tryd.func48 (by kernel_rfl) (by kernel_rfl) (args := #[.int .i64 (n : Int)]) (by simp [x40]) ((hls w).mono ?_)⟩
        rintro e w' ⟨rfl, hg'⟩
        exact ⟨_, rfl, h1 ⟨_, rfl⟩ _ _ hg' rfl (nobl rfl) (FreshB.none rfl)⟩
      · cases (show some _ = some o from ho)
        exact ⟨rfl, wp_move rfl (h1 ⟨_, rfl⟩ _ _ (grown_refl _ none) (houter _ rfl) (by rw [houter _ rfl]; exact nobl rfl) (by rw [houter _ rfl]; exact FreshB.none rfl))⟩
      · cases (show some _ = some o from ho)
        exact ⟨rfl, wp_move rfl (h1 ⟨_, rfl⟩ _ _ (grown_refl _ none) (houter _ rfl) (by rw [houter _ rfl]; exact nobl rfl) (by rw [houter _ rfl]; exact FreshB.none rfl))⟩
      · cases (show some _ = some o from ho)
        exact ⟨rfl, wp_len rfl (by kernel_rfl) (hitem 3 (by decide) ⟨hpre 3 rfl, hout _ (by decide)⟩) (h1 ⟨_, rfl⟩ _ _ (grown_refl _ none) rfl (nobl rfl) (FreshB.none rfl))⟩
      · cases (show some _ = some o from ho)
        exact ⟨rfl, wp_bin rfl (hitem 4 (by decide) ⟨hpre 4 rfl, hout _ (by decide)⟩) rfl (guard_subI _ _ _ _ _) (hsub1 _) (h1 ⟨_, rfl⟩ _ _ (grown_refl _ none) rfl (nobl rfl) (FreshB.none rfl))⟩
      · cases (show some _ = some o from ho)
        exact ⟨rfl, wp_index rfl (hitem 2 (by decide) ⟨hpre 2 rfl, hout _ (by decide)⟩) (hitem 5 (by decide) ⟨hpre 5 rfl, hout _ (by decide)⟩) (index_ho _ _ _ _ _ (by omega) _) (h1 ⟨_, rfl⟩ _ _ (grown_refl _ none) rfl (nobl rfl) (FreshB.none rfl))⟩
      · cases (show some _ = some o from ho)
        exact ⟨rfl, wp_load_mid 23 _ rfl g (o + d * 32) (hitem 6 (by decide) ⟨hpre 6 rfl, hout _ (by decide)⟩) (T.map bv) _ (hrT w hg) Tryd.underlying23 rfl (info_hash _ hTl.out) (h1 ⟨_, rfl⟩ _ _ (grown_refl _ none) rfl (nobl (blocks_bytes _)) (FreshB.none (blocks_bytes _)))⟩
      · cases (show some _ = some o from ho)
        exact ⟨rfl, wp_alloc rfl (alloc_H _) (h1 ⟨_, rfl⟩ _ _ (grown_alloc (grown_refl _ _) _) ⟨_, rfl, heap_alloc_new _ _⟩ (new_lt _ _) (FreshB.new (new_ge _)))⟩
      · cases (show some _ = some o from ho)
        have hx := hitem 1 (by decide) ⟨hpre 1 rfl, hout _ (by decide)⟩
        exact ⟨rfl, wp_assign rfl (h1 ⟨_, rfl⟩ _ _ (grown_refl _ none) hx (by rw [show a.eval (.tmp 41) = .int .i64 (k : Int) from hx]; exact nobl rfl) (by rw [show a.eval (.tmp 41) = .int .i64 (k : Int) from hx]; exact FreshB.none rfl))⟩
    · intro a wT hgT hend hap ha
      obtain ⟨f, hf⟩ : ∃ f : Nat → Value, f = fun t => a.tmps.getD t undef := ⟨_, rfl⟩
      have s47 : f 47 = (.agg (T.map bv).toArray) := by rw [hf]; exact (hend 7 (by decide) (by decide)).1
      obtain ⟨⟨b11, q11, hh11⟩, fr11⟩ := hend 8 (by decide) (by decide)
      have f11 : w1.heap.size ≤ b11 := fr11 rfl b11 (by rw [q11]; exact List.mem_singleton.2 rfl)
      have s11 := (congrFun hf 11).trans q11
      have s10 : f 10 = .int .i64 (k : Int) := by rw [hf]; exact (hend 9 (by decide) (by decide)).1
      rw [← hf] at ha
      clear hend hap
      clear hf
      clear q11 fr11
      subst ha
      simp only [fill, eaS, Nat.reduceAdd, Nat.reduceBEq, Bool.or_false, Bool.or_true, cond_true, cond_false, List.drop_succ_cons, List.drop_zero, s47, s11, s10]
      clear s47 s11 s10
      have hgs : wT.grownBy (wT.setRow b11 (T.map bv).toArray) (some b11) := grown_setRow (grown_refl _ _) (.inl rfl) _
      have hb11 : (wT.setRow b11 (T.map bv).toArray).heap[b11]? = some (.cells (T.map bv).toArray 23 (0, 0)) := setRow_heap _ _ _ _ _ _ hh11
      replace hb8 : (wT.setRow b11 (T.map bv).toArray).heap[w0.heap.size]? = some (.cells (rowH []) 23 (0, 0)) := (setRow_other _ _ _ _ (by have := lt_of_heap hb8; omega)).trans (keep_of hb8 hgT)
      have hgB : w1.grownBy (wT.setRow b11 (T.map bv).toArray) none := grown_trans hgT hgs (.inr fun g e => by cases e; exact f11)
      clear hgs hrT hls
      go_upto_region 12 with (first
        | (refine wpList_store_row rfl 23 _ _ rfl b11 (T.map bv).toArray rfl rfl 23 _ hh11 (hashV_size T hTl.out) (by rw [rowH_size _ (by simp), List.size_toArray, List.length_map, hTl.out]) (bv_all' _) ?_; generalize wT.setRow b11 _ = w2 at hb8 hb11 hgB ⊢)
        | (go_at_call 34; refine (hup _ hgB).mono ?_; rintro e w6 ⟨S, hS, hSu, rfl, hg6⟩; have hSl := Lib.hid hS; have HSU := Lib.hid hSu; clear hS hSu)
        | (refine wpList_store_row rfl 23 _ _ rfl (w6.heap.size) (S.map bv).toArray rfl rfl 23 _ (alloc_at rfl) (hashV_size S hSl.out) (by rw [show (S.map bv).toArray.size = 32 from by rw [List.size_toArray, List.length_map, hSl.out]]; rfl) (bv_all' _) ?_; generalize hw3 : World.setRow _ _ _ = w3; have HW3 := new_hash hw3; clear hw3))
      have hg3 : w1.grownBy w3 none := grown_same hgB (grown_same hg6 HW3.2)
      have hg63 := HW3.2
      have hb3 := HW3.1
      have hb2 := keep_of (keep_of hb11 hg6) hg63
      replace hb8 := keep_of (keep_of hb8 hg6) hg63
      clear HW3 hb11 hgB hup hg6 hg63
      generalize w6.heap.size = g14 at hb3 ⊢
      obtain ⟨g11, hg11⟩ : ∃ g11, g11 = b11 := ⟨_, rfl⟩
      rw [← hg11] at hb2 ⊢
      clear hg11
      obtain ⟨Z, hz⟩ : ∃ Z, Z = tagL 1 (T ++ S) := ⟨_, rfl⟩
      have hZl : Hid (Z.length = 32) := by rw [hz]; exact tagL_len _ _
      have hZ := Lib.hid hz
      clear hz
      refine wp_region_gs (al := ecAl) 5 (N := 89) (S := ecS) (die := ecDie) (own := ecOwn) (F := ecF g11 g14 T S Z b) (fun i => i == 4) (fun w9 => w9.setRow w0.heap.size (Z.map bv).toArray) _ rfl rfl (by kernel_rfl) (Nat.le_of_ble_eq_true (by kernel_rfl)) (fun _ => by kernel_rfl) (fun _ => by kernel_rfl) (by kernel_rfl) (by kernel_rfl) (by kernel_rfl) (by kernel_rfl) (Nat.le_of_ble_eq_true (by kernel_rfl)) (ecF_lasts g11 g14 T S Z b) ?_ ?_ ?_ ?_
      · intro i hi hl
        have hcases : i = 4 := by simpa using hl
        rcases hcases with rfl
        · exact ⟨_, _, .bool b, rfl, rfl, rfl, ⟨_, rfl⟩, fun a h => (h _ rfl).trans rfl, fun _ => rfl, rfl⟩
      · intro i o L' a w K hi ho hg hLi hout hpre houter hitem h1 h2 h3
        have hcases : i = 0 ∨ i = 1 ∨ i = 2 ∨ i = 3 ∨ i = 4 := by omega
        rcases hcases with rfl | rfl | rfl | rfl | rfl
        · cases (show some _ = some o from ho)
          exact ⟨rfl, wp_slice_all rfl (houter 11 rfl) (sl_arr _ _ _) (h1 ⟨_, rfl⟩ _ _ (grown_refl _ none) rfl (nobl rfl) (FreshB.none rfl))⟩
        · cases (show some _ = some o from ho)
          exact ⟨rfl, wp_slice_all rfl (houter 14 rfl) (sl_arr _ _ _) (h1 ⟨_, rfl⟩ _ _ (grown_refl _ none) rfl (nobl rfl) (FreshB.none rfl))⟩
        · cases (show some _ = some o from ho)
          exact ⟨rfl, wp_lit2 rfl ((show a.eval (.tmp 84) = .slice (some ⟨g11, 0, none⟩) 32 32 from hitem 0 (by decide) ⟨hpre 0 rfl, hout _ (by decide)⟩).trans (pv_hp hTl.out)) ((show a.eval (.tmp 85) = .slice (some ⟨g14, 0, none⟩) 32 32 from hitem 1 (by decide) ⟨hpre 1 rfl, hout _ (by decide)⟩).trans (pv_hp hSl.out)) (lit_p2 _ _ _) (h1 ⟨_, rfl⟩ _ _ (grown_alloc (grown_refl _ _) _) ⟨_, rfl, rd_row (cs := [_, _]) (heap_alloc_new _ _)⟩ (new_lt _ _) (FreshB.new (new_ge _)))⟩
        · cases (show some _ = some o from ho)
          obtain ⟨b, e1, h4⟩ := hitem 2 (by decide) ⟨hpre 2 rfl, hout _ (by decide)⟩
          exact ⟨rfl, wp_rtag (t := 1) (ps := [hp g11 T, hp g14 S]) (l := T ++ S) rfl rfl e1 (rd_hp2 h4 (keep_of hb2 hg) (keep_of hb3 hg)) rfl (cat_hp2 _ _ _ _) (by rw [List.length_append, hTl.out, hSl.out]; omega) (by simp) (fun w' hg' => by rw [← hZ.out]; exact h1 ⟨_, rfl⟩ _ _ hg' rfl (nobl (blocks_bytes _)) (FreshB.none (blocks_bytes _)))⟩
        · cases (show some _ = some o from ho)
          exact ⟨rfl, wp_move rfl (h1 ⟨_, rfl⟩ _ _ (grown_refl _ none) (houter _ rfl) (by rw [houter _ rfl]; exact nobl rfl) (by rw [houter _ rfl]; exact FreshB.none rfl))⟩
      · intro a w K hg hout hit hK
        exact ⟨rfl, wp_store_row 23 _ _ rfl (w0.heap.size) (Z.map bv).toArray (hout 8 rfl) (hit 3 (by decide) rfl (by decide)) 23 _ (keep_of hb8 hg) (hashV_size Z (hZl.out)) (by rw [rowH_size _ (by simp), List.size_toArray, List.length_map, hZl.out]) (bv_all' _) (hK _)⟩
      · intro a wT hgT hend hap ha
        obtain ⟨f, hf⟩ : ∃ f : Nat → Value, f = fun t => a.tmps.getD t undef := ⟨_, rfl⟩
        have s88 : f 88 = .bool b := by rw [hf]; exact (hend 4 (by decide) (by decide)).1
        rw [← hf] at ha
        clear hend hap
        clear hf
        subst ha
        simp only [fill, ecS, Nat.reduceAdd, Nat.reduceBEq, Bool.or_false, Bool.or_true, cond_true, cond_false, List.drop_succ_cons, List.drop_zero, s88]
        clear s88
        replace hb8 := keep_of hb8 hgT
        go_wp2_with fail
        refine bodyPost_ret (results_row_tmp rfl _ _ (w0.heap.size) 23 (Z.map bv).toArray (0, 0) _ rfl (setRow_heap _ _ _ _ _ _ hb8) Tryd.underlying23 rfl (hashV_size Z hZl.out)) rfl ?_
        exact ⟨Z, hZl.out, fun h => HU.out S Z HSU.out hZ.out h, (by rw [HD.out, ← HB.out]; rfl), grown_setRow (grown_same (grown_same hgW hg3) hgT) (.inr (by omega)) _⟩

theorem RUp_any (A : Option Addr) (x : List UInt8) (c : Nat) (hx : x.length ≤ 1000) (n i d : Nat) (B : Option Addr) (P : List UInt8) (cp : Nat) (w0 : World) (hi : i < n) (h5 : n ≤ 500) (hd : d ≤ 1000) (hB : d = 0 ∨ ∃ g, B = some ⟨g, 0, none⟩) (hP : P.length = d * 32) (hc : d ≤ cp) (hr : RdB w0 A x) (hrP : RdB w0 B P) :
    Calls Tryd.prog 34 #[.slice A x.length c, .int .i64 (i : Int), .int .i64 (n : Int), .slice B d cp] w0 fun e w' => ∃ Z : List UInt8, Z.length = 32 ∧ (d = depthN i n → Z = upL x i n P d) ∧ e = .returned (.tuple #[.agg (Z.map bv).toArray, .bool (decide (d = depthN i n))]) ∧ w0.grownBy w' none :=
  RUp_off A x c hx n i d B P cp w0 hi h5 hd (hB.imp id fun ⟨g, h⟩ => ⟨g, 0, h⟩) hP hc hr hrP
end Go.Proofs.YtohdifimfhdhoaaDoor
