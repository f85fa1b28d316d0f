/- For any numbers, any text, any hash VintBack returns true: what is put is read, in order; cut anywhere it isn't all there, and nothing is read from then on. Nothing that was there changes. Condition: none. -/
import Derived.Test.YthccbbdabfpjcaaOps
import Derived.Test.YthccbbdabfpjcaaCut
import Derived.Deep.DeepCutAuto
import Derived.Deep.CutBlock
import Derived.Test.YthccbbdabfpjcaaLRuns
namespace Go.Proofs.Ythccbbdabfpjcaa
open Go.ChangeShapes Go.WideShapes Go.ChangeAt Go.RowKit

def bDie : Nat → Nat
  | 0 => 1 | 1 => 2 | 2 => 6 | 3 => 4 | 4 => 5 | 5 => 6 | 6 => 10 | 7 => 8 | 8 => 9 | 9 => 10 | 10 => 14 | 11 => 12 | 12 => 13 | 13 => 14 | 14 => 15 | _ => 99
def bS (t : Nat) : Bool := t == 13 || decide (21 ≤ t)
def bOwn (k : Nat) : Bool := k == 2 || k == 6 || k == 10 || k == 14 || k == 15
def bF (n m : Nat) (s h : List UInt8) : Nat → Value → World → Prop
  | 0 => fun v _ => v = .int .i64 n
  | 1 => fun v w => ∃ A c, v = .slice A 1 c ∧ RdAt w A [iv n]
  | 2 => fun v w => OwnB w v (putL n)
  | 3 => fun v _ => v = .string ⟨s.toArray⟩
  | 4 => fun v w => ∃ A c, v = .slice A 1 c ∧ RdAt w A [sv s]
  | 5 => fun v w => OwnB w v (textL s)
  | 6 => fun v w => OwnB w v (putL n ++ textL s)
  | 7 => fun v _ => v = .agg (h.map bv).toArray
  | 8 => fun v w => ∃ A c, v = .slice A 1 c ∧ RdH w A [h]
  | 9 => fun v w => OwnB w v h
  | 10 => fun v w => OwnB w v (putL n ++ textL s ++ h)
  | 11 => fun v _ => v = .int .i64 m
  | 12 => fun v w => ∃ A c, v = .slice A 1 c ∧ RdAt w A [iv m]
  | 13 => fun v w => OwnB w v (putL m)
  | 14 => fun v w => OwnB w v (putL n ++ textL s ++ h ++ putL m)
  | 15 => fun v w => OwnB w v (putL n ++ textL s ++ h ++ putL m)
  | _ => fun _ _ => True
theorem bF_lasts (n m : Nat) (s h : List UInt8) : ∀ k, Lasts (bF n m s h k) := by
  intro k
  match k with
  | 0 => exact lasts_val _
  | 1 => exact lasts_rd _ _
  | 2 => exact lasts_own _
  | 3 => exact lasts_val _
  | 4 => exact lasts_rd _ _
  | 5 => exact lasts_own _
  | 6 => exact lasts_own _
  | 7 => exact lasts_val _
  | 8 => exact lasts_rdH _ _
  | 9 => exact lasts_own _
  | 10 => exact lasts_own _
  | 11 => exact lasts_val _
  | 12 => exact lasts_rd _ _
  | 13 => exact lasts_own _
  | 14 => exact lasts_own _
  | 15 => exact lasts_own _
  | k + 16 => exact fun _ _ _ _ _ _ _ => trivial

set_option maxRecDepth 100000 in
set_option maxHeartbeats 2000000 in
theorem VintBack_any (a b cut : Int) (s0 : List UInt8) (h : List UInt8) (W : World) (hs0 : s0.length ≤ maxLen) (hh : h.length = 32) :
    Calls Try.prog 5 #[.int .i64 a, .int .i64 b, .string ⟨s0.toArray⟩, .agg (h.map bv).toArray, .int .i64 cut] W fun e w' => e = .returned (.bool true) ∧ W.grownBy w' none := by
  have hs0' : s0.length ≤ 9223372036854775807 := hs0
  obtain ⟨k, hmin0, hk1, hk2⟩ := min_some s0.length 150
  have hmin : (if (150 : Int) < (s0.length : Int) then (150 : Int) else (s0.length : Int)) = (k : Int) := hmin0
  clear hmin0
  obtain ⟨n, hn, hwn⟩ := Within_nat a 1099511627775 (Nat.le_refl _)
  obtain ⟨m, hm, hwm⟩ := Within_nat b 400 (by omega)
  have HWN := Lib.hid hwn
  have HWM := Lib.hid hwm
  have HH := Lib.hid hh
  clear hwn hwm hh
  go_enter Try.func5, Try.ntmps5
  go_wp2_with fail
  refine (HWN.out _).mono ?_
  rintro e w' ⟨rfl, rfl⟩
  go_wp2_with fail
  refine (HWM.out _).mono ?_
  rintro e w' ⟨rfl, rfl⟩
  go_wp2_with fail
  obtain ⟨s, hs⟩ : ∃ s, s = s0.take k := ⟨_, rfl⟩
  have hsl : s.length ≤ 150 := by rw [hs, List.length_take]; omega
  rw [extract_take, ← hs]
  have HS := Lib.hid hs
  clear hs
  have hl1 := putL_len n
  have hl2 := putL_len m
  have hl3 : (textL s).length ≤ 156 := by
    have := putL_len s.length
    unfold textL; rw [List.length_append]; omega
  have hb0 := heap_alloc_new W (.cells (h.map bv).toArray 33)
  go_cut [13] (fun v w' => OwnB w' v (putL n ++ textL s ++ h ++ putL m) ∧ Grew (W.alloc (.cells (h.map bv).toArray 33)) w' (.slice none 0 0) v)
  case first =>
    refine wp_region_go (N := 161) (S := bS) (die := bDie) (own := bOwn) (F := bF n m s h) (by kernel_rfl) (by kernel_rfl) (Nat.le_refl _) (bF_lasts n m s h) ?_ ?_
    · intro i o L a w K hi ho hg hLi hpre houter hitem h1 h2
      have hcases : i = 0 ∨ i = 1 ∨ i = 2 ∨ i = 3 ∨ i = 4 ∨ i = 5 ∨ i = 6 ∨ i = 7 ∨ i = 8 ∨ i = 9 ∨ i = 10 ∨ i = 11 ∨ i = 12 ∨ i = 13 ∨ i = 14 ∨ i = 15 := by
        have : i < 16 := hi
        omega
      rcases hcases with rfl | rfl | rfl | rfl | rfl | rfl | rfl | rfl | rfl | rfl | rfl | rfl | rfl | rfl | rfl | rfl
      · cases (show some _ = some o from ho)
        refine ⟨rfl, wp_move rfl (h1 _ _ (grown_refl _ none) ?_ ?_ (.inl ?_))⟩
        · exact houter _ rfl
        · rw [houter _ rfl]; intro g hg; cases hg
        · rw [houter _ rfl]; rfl
      · cases (show some _ = some o from ho)
        have hx := hitem 0 (by decide) ⟨hpre 0 rfl, hLi⟩
        refine ⟨rfl, wp_lit1 rfl hx (lit_int _ _) (h1 _ _ (grown_alloc (grown_refl _ _) _) ⟨_, _, rfl, rd_new _ _ _ _ rfl⟩ ?_ Fresh.lit)⟩
        intro g hg; cases hg; simp
      · cases (show some _ = some o from ho)
        obtain ⟨A, c, hx, hr⟩ := hitem 1 (by decide) ⟨hpre 1 rfl, hLi⟩
        refine ⟨rfl, wp_Put1 rfl hx hr fun v w' hv hw => h1 _ _ hw.1 hv ?_ (Fresh.ofNil hw)⟩
        exact fun g hg => hv.lt _ hg
      · cases (show some _ = some o from ho)
        refine ⟨rfl, wp_move rfl (h1 _ _ (grown_refl _ none) ?_ ?_ (.inl ?_))⟩
        · exact houter _ rfl
        · rw [houter _ rfl]; intro g hg; cases hg
        · rw [houter _ rfl]; rfl
      · cases (show some _ = some o from ho)
        have hx := hitem 3 (by decide) ⟨hpre 3 rfl, hLi⟩
        refine ⟨rfl, wp_lit1 rfl hx (lit_str _ _) (h1 _ _ (grown_alloc (grown_refl _ _) _) ⟨_, _, rfl, rd_new _ _ _ _ rfl⟩ ?_ Fresh.lit)⟩
        intro g hg; cases hg; simp
      · cases (show some _ = some o from ho)
        obtain ⟨A, c, hx, hr⟩ := hitem 4 (by decide) ⟨hpre 4 rfl, hLi⟩
        refine ⟨rfl, wp_Text1 rfl hx hr (by omega) fun v w' hv hw => h1 _ _ hw.1 hv ?_ (Fresh.ofNil hw)⟩
        exact fun g hg => hv.lt _ hg
      · cases (show some _ = some o from ho)
        have hx := hitem 2 (by decide) ⟨hpre 2 rfl, hLi⟩
        have hy := hitem 5 (by decide) ⟨hpre 5 rfl, hLi⟩
        obtain ⟨A, c, e, _, _, hr⟩ := hy.slice
        refine ⟨rfl, wp_appB rfl rfl hx e rfl hr ?_ fun v w' hv hw => h2 2 v w' (by decide) ⟨hpre 2 rfl, hLi⟩ rfl rfl hw.1 hv (fun g hg => hv.lt _ hg) (Fresh.ofGrew hw)⟩
        omega
      · cases (show some _ = some o from ho)
        refine ⟨rfl, wp_loadH rfl (houter _ rfl) HH.out ((hg.block W.heap.size (by simp) (by simp)).trans hb0) (h1 _ _ (grown_refl _ none) rfl ?_ (.inl rfl))⟩
        intro g hg; cases hg
      · cases (show some _ = some o from ho)
        have hx := hitem 7 (by decide) ⟨hpre 7 rfl, hLi⟩
        refine ⟨rfl, wp_lit1 rfl hx (lit_hash h HH.out _) (h1 _ _ (grown_alloc (grown_refl _ _) _) ⟨_, _, rfl, rdH_new _ _ _⟩ ?_ Fresh.lit)⟩
        intro g hg; cases hg; simp
      · cases (show some _ = some o from ho)
        obtain ⟨A, c, hx, hr⟩ := hitem 8 (by decide) ⟨hpre 8 rfl, hLi⟩
        refine ⟨rfl, wp_Hash1 rfl hx hr HH.out fun v w' hv hw => h1 _ _ hw.1 hv ?_ (Fresh.ofNil hw)⟩
        exact fun g hg => hv.lt _ hg
      · cases (show some _ = some o from ho)
        have hx := hitem 6 (by decide) ⟨hpre 6 rfl, hLi⟩
        have hy := hitem 9 (by decide) ⟨hpre 9 rfl, hLi⟩
        obtain ⟨A, c, e, _, _, hr⟩ := hy.slice
        refine ⟨rfl, wp_appB rfl rfl hx e rfl hr ?_ fun v w' hv hw => h2 6 v w' (by decide) ⟨hpre 6 rfl, hLi⟩ rfl rfl hw.1 hv (fun g hg => hv.lt _ hg) (Fresh.ofGrew hw)⟩
        have := HH.out; simp only [List.length_append]; omega
      · cases (show some _ = some o from ho)
        refine ⟨rfl, wp_move rfl (h1 _ _ (grown_refl _ none) ?_ ?_ (.inl ?_))⟩
        · exact houter _ rfl
        · rw [houter _ rfl]; intro g hg; cases hg
        · rw [houter _ rfl]; rfl
      · cases (show some _ = some o from ho)
        have hx := hitem 11 (by decide) ⟨hpre 11 rfl, hLi⟩
        refine ⟨rfl, wp_lit1 rfl hx (lit_int _ _) (h1 _ _ (grown_alloc (grown_refl _ _) _) ⟨_, _, rfl, rd_new _ _ _ _ rfl⟩ ?_ Fresh.lit)⟩
        intro g hg; cases hg; simp
      · cases (show some _ = some o from ho)
        obtain ⟨A, c, hx, hr⟩ := hitem 12 (by decide) ⟨hpre 12 rfl, hLi⟩
        refine ⟨rfl, wp_Put1 rfl hx hr fun v w' hv hw => h1 _ _ hw.1 hv ?_ (Fresh.ofNil hw)⟩
        exact fun g hg => hv.lt _ hg
      · cases (show some _ = some o from ho)
        have hx := hitem 10 (by decide) ⟨hpre 10 rfl, hLi⟩
        have hy := hitem 13 (by decide) ⟨hpre 13 rfl, hLi⟩
        obtain ⟨A, c, e, _, _, hr⟩ := hy.slice
        refine ⟨rfl, wp_appB rfl rfl hx e rfl hr ?_ fun v w' hv hw => h2 10 v w' (by decide) ⟨hpre 10 rfl, hLi⟩ rfl rfl hw.1 hv (fun g hg => hv.lt _ hg) (Fresh.ofGrew hw)⟩
        have := HH.out; simp only [List.length_append]; omega
      · cases (show some _ = some o from ho)
        have hx := hitem 14 (by decide) ⟨hpre 14 rfl, hLi⟩
        refine ⟨rfl, wp_assign rfl (h2 14 _ _ (by decide) ⟨hpre 14 rfl, hLi⟩ rfl rfl (grown_refl _ _) hx (fun g hg => hx.lt _ hg) (.inr (.inr (.inl rfl))))⟩
    · intro a w hg hend ha
      obtain ⟨hv, hfr⟩ := hend 15 (by decide) (by decide)
      obtain ⟨f, hf⟩ : ∃ f : Nat → Value, f = fun t => a.tmps.getD t undef := ⟨_, rfl⟩
      have h13 : a.eval (.tmp 13) = f 13 := by rw [hf]; rfl
      have hv' : OwnB w (f 13) (putL n ++ textL s ++ h ++ putL m) := h13 ▸ hv
      have hfr' : ∀ g, (f 13).ownBlock = some g → (W.alloc (.cells (h.map bv).toArray 33)).heap.size ≤ g := h13 ▸ hfr rfl
      rw [← hf] at ha
      clear hv hfr hend h13
      clear hf
      subst ha
      simp only [fill, bS, Nat.reduceAdd, Nat.reduceBEq, Nat.reduceLeDiff, decide_false, decide_true, Bool.or_false, Bool.or_true, cond_true, cond_false]
      go_wp2_with fail
      go_meet
      refine ⟨hv', hg, ?_⟩
      cases e : (f 13).ownBlock with
      | none => exact .inl rfl
      | some g => exact .inr ⟨g, rfl, hfr' g e⟩
  case rest =>
    obtain ⟨D, hD⟩ : ∃ D, D = putN n ++ (textL s ++ (h ++ putN m)) := ⟨_, rfl⟩
    obtain ⟨hv, hw⟩ := hcut
    rw [putL_some (by omega), putL_some (by omega), List.append_assoc, List.append_assoc, ← hD] at hv
    have hW : W.grownBy wc none := grown_none (grown_alloc (grown_refl _ _) _) hw.nil
    have hDl : D.length ≤ 400 := by
      have := HH.out
      rw [putL_some (by omega)] at hl1 hl2
      rw [hD]; simp only [List.length_append]; omega
    have e1 : rNum (D, false) = (n, (textL s ++ (h ++ putN m), false)) := by rw [hD]; exact rNum_read _ _ _ hn
    have e2 : rText (textL s ++ (h ++ putN m), false) = (s, (h ++ putN m, false)) := rText_read _ _ _ (by omega)
    have e3 : rHash (h ++ putN m, false) = (h, (putN m, false)) := rHash_read _ _ _ HH.out
    have e4 : rNum (putN m, false) = (m, ([], false)) := by have := rNum_read m [] false (by omega); rwa [List.append_nil] at this
    have hD1 : 1 ≤ D.length := by have := putN_ne n; rw [hD, List.length_append]; omega
    obtain ⟨c, hc, hwc⟩ := Within_nat cut (D.length - 1) (by omega)
    obtain ⟨x, t, y, S1, S2, S3, f1, f2, f3, f4, hx, ht, hy⟩ := cut_back n m s h c hn (by omega) HH.out (by rw [← hD]; omega)
    rw [← hD] at f1
    rw [show ((D.length - 1 : Nat) : Int) = (D.length : Int) - 1 from by omega] at hwc
    have HD := Lib.hid hD
    have HWC := Lib.hid hwc
    clear hD hwc
    have E1 := Lib.hid e1
    have E2 := Lib.hid e2
    have E3 := Lib.hid e3
    have E4 := Lib.hid e4
    have F1 := Lib.hid f1
    have F2 := Lib.hid f2
    have F3 := Lib.hid f3
    have F4 := Lib.hid f4
    have HX := Lib.hid hx
    have HT := Lib.hid ht
    have HY := Lib.hid hy
    clear e1 e2 e3 e4 f1 f2 f3 f4 hx ht hy
    obtain ⟨A, cA, rfl, hcA, hcM, hr⟩ := hv.slice
    go_wp2_with fail
    refine (Read_any _ _ _ _ hr (by omega)).mono ?_
    rintro e w2 ⟨g, rfl, hgs, hR, hg2⟩
    have hB0 : (W.alloc (.cells (h.map bv).toArray 33)).grownBy wc none := hw.nil
    have hgB : W.heap.size + 1 ≤ g := by have := hB0.size; simp at this; omega
    have hB2 := grown_none hB0 hg2
    go_wp2_with fail
    refine (Number_to hR E1.out).mono ?_
    rintro e w3 ⟨rfl, hR3, hg3⟩
    go_wp2_with fail
    refine (Text_to hR3 E2.out).mono ?_
    rintro e w4 ⟨rfl, hR4, hg4⟩
    go_wp2_with fail
    refine (Hash_to hR4 E3.out).mono ?_
    rintro e w5 ⟨rfl, hR5, hg5⟩
    go_wp2_with fail
    refine (Number_to hR5 E4.out).mono ?_
    rintro e w6 ⟨rfl, hR6, hg6⟩
    have hB6 : (W.alloc (.cells (h.map bv).toArray 33)).grownBy w6 none := grown_trans hB2 (grown_same (grown_same (grown_same hg3 hg4) hg5) hg6) (.inr fun r e => by injection e with e; simp; omega)
    have hg67 : w6.grownBy ((w6.alloc (.cells #[Value.int .u8 0, Value.int .u8 0, Value.int .u8 0, Value.int .u8 0, Value.int .u8 0, Value.int .u8 0, Value.int .u8 0, Value.int .u8 0, Value.int .u8 0, Value.int .u8 0, Value.int .u8 0, Value.int .u8 0, Value.int .u8 0, Value.int .u8 0, Value.int .u8 0, Value.int .u8 0, Value.int .u8 0, Value.int .u8 0, Value.int .u8 0, Value.int .u8 0, Value.int .u8 0, Value.int .u8 0, Value.int .u8 0, Value.int .u8 0, Value.int .u8 0, Value.int .u8 0, Value.int .u8 0, Value.int .u8 0, Value.int .u8 0, Value.int .u8 0, Value.int .u8 0, Value.int .u8 0] 33)).setRow w6.heap.size (h.map bv).toArray) none := grown_setRow (grown_alloc (grown_refl _ _) _) (.inr (Nat.le_refl _)) _
    have hb7 := setRow_heap (w6.alloc (.cells #[Value.int .u8 0, Value.int .u8 0, Value.int .u8 0, Value.int .u8 0, Value.int .u8 0, Value.int .u8 0, Value.int .u8 0, Value.int .u8 0, Value.int .u8 0, Value.int .u8 0, Value.int .u8 0, Value.int .u8 0, Value.int .u8 0, Value.int .u8 0, Value.int .u8 0, Value.int .u8 0, Value.int .u8 0, Value.int .u8 0, Value.int .u8 0, Value.int .u8 0, Value.int .u8 0, Value.int .u8 0, Value.int .u8 0, Value.int .u8 0, Value.int .u8 0, Value.int .u8 0, Value.int .u8 0, Value.int .u8 0, Value.int .u8 0, Value.int .u8 0, Value.int .u8 0, Value.int .u8 0] 33)) w6.heap.size _ (h.map bv).toArray _ _ (heap_alloc_new _ _)
    obtain ⟨w7, hw7⟩ : ∃ w7, w7 = (w6.alloc (.cells #[Value.int .u8 0, Value.int .u8 0, Value.int .u8 0, Value.int .u8 0, Value.int .u8 0, Value.int .u8 0, Value.int .u8 0, Value.int .u8 0, Value.int .u8 0, Value.int .u8 0, Value.int .u8 0, Value.int .u8 0, Value.int .u8 0, Value.int .u8 0, Value.int .u8 0, Value.int .u8 0, Value.int .u8 0, Value.int .u8 0, Value.int .u8 0, Value.int .u8 0, Value.int .u8 0, Value.int .u8 0, Value.int .u8 0, Value.int .u8 0, Value.int .u8 0, Value.int .u8 0, Value.int .u8 0, Value.int .u8 0, Value.int .u8 0, Value.int .u8 0, Value.int .u8 0, Value.int .u8 0] 33)).setRow w6.heap.size (h.map bv).toArray := ⟨_, rfl⟩
    rw [← hw7] at hg67 hb7
    have hR7 := hR6.kept hg67
    have HW7 := Lib.hid hw7
    clear hw7
    have hB7 := grown_none hB6 hg67
    have hbh7 := (hB7.block W.heap.size (by simp) (by simp)).trans hb0
    have hne : ∀ W, (binOp .neq 33 (.agg (h.map bv).toArray) (.agg (h.map bv).toArray)).run Try.prog W = .ok (.bool false) W := fun W => by
      rw [neq_hash h h HH.out HH.out]; simp
    have hsz : ((h.map bv).toArray : Array Value).size = 32 := by rw [List.size_toArray, List.length_map, HH.out]
    go_wp2_with (first
      | (refine wpList_store_row rfl 33 _ _ rfl w6.heap.size (h.map bv).toArray rfl rfl 33 _ (heap_alloc_new _ _) (by rw [hsz]; exact size_hash) (by rw [hsz]; rfl) (bv_all h) ?_; rw [← HW7.out])
      | (refine wpList_load_row_g (by rfl) 33 _ rfl w6.heap.size rfl 33 _ (0, 0) _ hb7 Try.underlying33 rfl (by rw [hsz]; exact size_hash) ?_)
      | (refine wpList_load_row_g (by rfl) 33 _ rfl W.heap.size rfl 33 _ (0, 0) _ hbh7 Try.underlying33 rfl (by rw [hsz]; exact size_hash) ?_))
    refine (Good_to (S := ([], false)) hR7 rfl).mono ?_
    rintro e w' ⟨rfl, rfl⟩
    go_wp2_with fail
    refine (Done_to (S := ([], false)) hR7 rfl).mono ?_
    rintro e w' ⟨rfl, rfl⟩
    go_wp2_with fail
    refine (Number_to hR7 rNum_end).mono ?_
    rintro e w8 ⟨rfl, hR8, hg8⟩
    have hB8 : (W.alloc (.cells (h.map bv).toArray 33)).grownBy w8 none := grown_trans hB7 hg8 (.inr fun r e => by injection e with e; simp; omega)
    have hgs6 := hg67.size
    have hg6' : g < w6.heap.size := hR6.lt
    have hlt7 : w6.heap.size < w7.heap.size := (Array.getElem?_eq_some_iff.1 hb7).1
    have hb8 := (hg8.block w6.heap.size hlt7 (fun e => by injection e with e; omega)).trans hb7
    go_wp2_with fail
    refine (Good_to (S := ([], true)) hR8 rfl).mono ?_
    rintro e w' ⟨rfl, rfl⟩
    go_wp2_with fail
    refine (HWC.out _).mono ?_
    rintro e w' ⟨rfl, rfl⟩
    have hrc : RdB wc A (D.take c) := rd_takeB hr c
    obtain ⟨E, hE⟩ : ∃ E, E = D.take c := ⟨_, rfl⟩
    have hEl : Hid (E.length = c) := by show _ = _; rw [hE, List.length_take]; omega
    rw [← hE] at hrc
    have F1' : Hid (rNum (E, false) = (x, S1)) := by have := F1.out; rw [← hE] at this; exact Lib.hid this
    clear hE F1
    have hcM' : cA ≤ 9223372036854775807 := hcM
    have hBw : wc.grownBy w8 none := grown_trans hg2 (grown_same (grown_none (grown_same (grown_same (grown_same hg3 hg4) hg5) hg6) hg67) hg8) (.inr fun r e => by injection e with e; omega)
    go_wp2_with fail
    have hRead := Read_any A cA E w8 (hrc.kept hBw) (by rw [hEl.out]; omega)
    rw [hEl.out] at hRead
    refine hRead.mono ?_
    rintro e w9 ⟨q, rfl, hqs, hR9, hg9⟩
    clear hRead
    go_wp2_with fail
    refine (Number_to hR9 F1'.out).mono ?_
    rintro e w10 ⟨rfl, hR10, hg10⟩
    go_wp2_with fail
    refine (Text_to hR10 F2.out).mono ?_
    rintro e w11 ⟨rfl, hR11, hg11⟩
    go_wp2_with fail
    refine (Hash_to hR11 F3.out).mono ?_
    rintro e w12 ⟨rfl, hR12, hg12⟩
    go_wp2_with fail
    refine (Number_to hR12 F4.out).mono ?_
    rintro e w13 ⟨rfl, hR13, hg13⟩
    have hg93 : w9.grownBy w13 (some q) := grown_same (grown_same (grown_same hg10 hg11) hg12) hg13
    have hs78 := hg8.size
    have hs89 := hg9.size
    have hBs := hB8.size
    simp at hBs
    have hB13 : (W.alloc (.cells (h.map bv).toArray 33)).grownBy w13 none := grown_trans (grown_none hB8 hg9) hg93 (.inr fun r e => by injection e with e; simp; omega)
    have hb9 := (hg9.block w6.heap.size (by omega) (by simp)).trans hb8
    have hb13 := (hg93.block w6.heap.size (by omega) (fun e => by injection e with e; omega)).trans hb9
    have hB67 := hB6.size
    simp at hB67
    have hg14 : w13.grownBy (w13.setRow w6.heap.size (y.map bv).toArray) (some w6.heap.size) := grown_setRow (grown_refl _ _) (.inl rfl) _
    have hB14 : (W.alloc (.cells (h.map bv).toArray 33)).grownBy (w13.setRow w6.heap.size (y.map bv).toArray) none := grown_setRow hB13 (.inr (by simp; omega)) _
    have hb14 := setRow_heap w13 w6.heap.size _ (y.map bv).toArray _ _ hb13
    obtain ⟨w14, hw14⟩ : ∃ w14, w14 = w13.setRow w6.heap.size (y.map bv).toArray := ⟨_, rfl⟩
    rw [← hw14] at hg14 hB14 hb14
    have HW14 := Lib.hid hw14
    clear hw14
    have hR14 := isR_nil hR13 hg14 (by omega)
    have hbh14 := (hB14.block W.heap.size (by simp) (by simp)).trans hb0
    have hyl : Hid (y.length = 32) := by
      show _ = _
      rcases HY.out with e | e
      · rw [e]; simp
      · rw [e]; exact HH.out
    have hysz : Hid (((y.map bv).toArray : Array Value).size = 32) := by show _ = _; rw [List.size_toArray, List.length_map, hyl.out]
    clear hne
    have hX : ((x : Int) == 0) = true ∨ (((x : Int) == 0) = false ∧ x = n) := by
      rcases HX.out with e | e
      · exact .inl (by rw [e]; rfl)
      · cases hb : ((x : Int) == 0)
        · exact .inr ⟨rfl, e⟩
        · exact .inl rfl
    have hY : (∀ W, (binOp .eql 33 (.agg (y.map bv).toArray) (.agg #[Value.int .u8 0, Value.int .u8 0, Value.int .u8 0, Value.int .u8 0, Value.int .u8 0, Value.int .u8 0, Value.int .u8 0, Value.int .u8 0, Value.int .u8 0, Value.int .u8 0, Value.int .u8 0, Value.int .u8 0, Value.int .u8 0, Value.int .u8 0, Value.int .u8 0, Value.int .u8 0, Value.int .u8 0, Value.int .u8 0, Value.int .u8 0, Value.int .u8 0, Value.int .u8 0, Value.int .u8 0, Value.int .u8 0, Value.int .u8 0, Value.int .u8 0, Value.int .u8 0, Value.int .u8 0, Value.int .u8 0, Value.int .u8 0, Value.int .u8 0, Value.int .u8 0, Value.int .u8 0])).run Try.prog W = .ok (.bool true) W) ∨ ((∀ W, (binOp .eql 33 (.agg (y.map bv).toArray) (.agg #[Value.int .u8 0, Value.int .u8 0, Value.int .u8 0, Value.int .u8 0, Value.int .u8 0, Value.int .u8 0, Value.int .u8 0, Value.int .u8 0, Value.int .u8 0, Value.int .u8 0, Value.int .u8 0, Value.int .u8 0, Value.int .u8 0, Value.int .u8 0, Value.int .u8 0, Value.int .u8 0, Value.int .u8 0, Value.int .u8 0, Value.int .u8 0, Value.int .u8 0, Value.int .u8 0, Value.int .u8 0, Value.int .u8 0, Value.int .u8 0, Value.int .u8 0, Value.int .u8 0, Value.int .u8 0, Value.int .u8 0, Value.int .u8 0, Value.int .u8 0, Value.int .u8 0, Value.int .u8 0])).run Try.prog W = .ok (.bool false) W) ∧ (∀ W, (binOp .eql 33 (.agg (y.map bv).toArray) (.agg (h.map bv).toArray)).run Try.prog W = .ok (.bool true) W)) := by
      have hz : ∀ W, (binOp .eql 33 (.agg (y.map bv).toArray) (.agg #[Value.int .u8 0, Value.int .u8 0, Value.int .u8 0, Value.int .u8 0, Value.int .u8 0, Value.int .u8 0, Value.int .u8 0, Value.int .u8 0, Value.int .u8 0, Value.int .u8 0, Value.int .u8 0, Value.int .u8 0, Value.int .u8 0, Value.int .u8 0, Value.int .u8 0, Value.int .u8 0, Value.int .u8 0, Value.int .u8 0, Value.int .u8 0, Value.int .u8 0, Value.int .u8 0, Value.int .u8 0, Value.int .u8 0, Value.int .u8 0, Value.int .u8 0, Value.int .u8 0, Value.int .u8 0, Value.int .u8 0, Value.int .u8 0, Value.int .u8 0, Value.int .u8 0, Value.int .u8 0])).run Try.prog W = .ok (.bool (y == List.replicate 32 0)) W := fun W => by
        rw [← zeroH]; exact eql_hash y (List.replicate 32 0) hyl.out (by simp) W
      have hh' : ∀ W, (binOp .eql 33 (.agg (y.map bv).toArray) (.agg (h.map bv).toArray)).run Try.prog W = .ok (.bool (y == h)) W := eql_hash y h hyl.out HH.out
      rcases HY.out with e | e
      · exact .inl fun W => by rw [hz, e]; simp
      · cases hb : (y == List.replicate 32 0)
        · rw [hb] at hz
          rw [e] at hh' hz ⊢
          exact .inr ⟨hz, fun W => by rw [hh']; simp⟩
        · rw [hb] at hz
          exact .inl hz
    have hT : t = [] ∨ (decide (t = []) = false ∧ (¬ t = []) ∧ t = s) := by
      rcases HT.out with e | e
      · exact .inl e
      · by_cases h0 : t = []
        · exact .inl h0
        · exact .inr ⟨by rw [decide_eq_false_iff_not]; exact h0, h0, e⟩
    have hfin : ∀ w15 w16, w14.grownBy w15 (some q) → w15.grownBy w16 none → W.grownBy w16 none := fun w15 w16 h1 h2 =>
      grown_none (grown_alloc (grown_refl _ _) _) (grown_none (grown_trans hB14 h1 (.inr fun r e => by injection e with e; simp; omega)) h2)
    rcases hT with rfl | ⟨ht1, ht0, rfl⟩
    all_goals rcases hX with hx0 | ⟨hx0, rfl⟩
    all_goals rcases hY with hy0 | ⟨hy0, hyh⟩
    all_goals
      go_wp2_with (first
          | (refine wpList_store_row rfl 33 _ _ rfl w6.heap.size (y.map bv).toArray rfl rfl 33 _ hb13 (by rw [hysz.out]; exact size_hash) (by rw [hsz, hysz.out]) (bv_all y) ?_; rw [← HW14.out])
          | (refine wpList_load_row_g (by rfl) 33 _ rfl w6.heap.size rfl 33 _ (0, 0) _ hb14 Try.underlying33 rfl (by rw [hysz.out]; exact size_hash) ?_)
          | (refine wpList_load_row_g (by rfl) 33 _ rfl W.heap.size rfl 33 _ (0, 0) _ hbh14 Try.underlying33 rfl (by rw [hsz]; exact size_hash) ?_)
          | (go_at_call 13; refine (Good_to (S := ([], true)) hR14 rfl).mono ?_; rintro e w' ⟨rfl, rfl⟩)
          | (go_at_call 23; refine (Done_to (S := ([], true)) hR14 rfl).mono ?_; rintro e w' ⟨rfl, rfl⟩)
          | (go_at_call 21; refine (Text_to (S := ([], true)) hR14 rText_bad).mono ?_; rintro e w15 ⟨rfl, hR15, hg15⟩)
          | (go_at_call 3; refine (VintRuns_any _).mono ?_; rintro e w16 ⟨rfl, hg16⟩))
      go_ret
      exact ⟨rfl, hfin _ _ hg15 hg16⟩
-- THE ROW
set_option maxRecDepth 100000 in
theorem VintBack_lifted (os : Os) (started : os.Started) (H : Type) (enc : TypeId × Value → H) :
    ReturnsInHanded {} Try.checked os 5 .any (Rows.vintBackSpec.pre6 enc Try.prog Try.f5 Rows.vintBackRow.domain false) (Rows.vintBackSpec.post enc Try.prog Try.f5 false true false false) := by
  refine returnsInHanded_of_change (C := Try.checked) Try.own started (by kernel_rfl) Try.func5
    (ChangeSpec.witness6 (enc := enc) (C := Try.checked) false ⟨#[], #[.int .i64 0, .int .i64 0, .string ⟨#[]⟩, .agg ((List.replicate 32 (.int .u8 0)).toArray), .int .i64 0], []⟩ 40 (by kernel_rfl) (by kernel_rfl) (by kernel_rfl) (by kernel_rfl)) ?_
  intro W base args ds gs before hval0 hW hcnd _
  have hW0 := hW
  have hval : ∀ (j : Nat) t v, Try.f5.params[j]? = some t → args[j]? = some v → Value.okWide Try.prog W .any base t v := hval0
  obtain ⟨p, q, hA0, hV, rfl, hfz, hnd⟩ := hW
  have hA : DataW.TrodAll enc Try.prog W 0 (fun _ => true) true Try.f5.params.toList args.toList ds p := hA0
  rw [Try.params5] at hA hval
  obtain ⟨v0, vs0, d0, ds0, p0, q0, hargs, rfl, rfl, h0, r0⟩ := trodAll_cons hA
  obtain ⟨v1, vs1, d1, ds1, p1, q1, rfl, rfl, rfl, h1, r1⟩ := trodAll_cons r0
  obtain ⟨v2, vs2, d2, ds2, p2, q2, rfl, rfl, rfl, h2, r2⟩ := trodAll_cons r1
  obtain ⟨v3, vs3, d3, ds3, p3, q3, rfl, rfl, rfl, h3, r3⟩ := trodAll_cons r2
  obtain ⟨v4, vs4, d4, ds4, p4, q4, rfl, rfl, rfl, h4, r4⟩ := trodAll_cons r3
  obtain ⟨rfl, rfl, rfl⟩ := trodAll_nil r4
  obtain ⟨xs⟩ := args
  simp only at hargs
  subst hargs
  obtain ⟨rfl, rfl⟩ := trodVars_none hV
  obtain ⟨n0, rfl, hlo0, hhi0⟩ := arg_int Try.underlying3 (hval 0 _ _ rfl rfl) h0
  obtain ⟨n1, rfl, hlo1, hhi1⟩ := arg_int Try.underlying3 (hval 1 _ _ rfl rfl) h1
  obtain ⟨s2, rfl, hs2⟩ := arg_text Try.underlying9 (hval 2 _ _ rfl rfl) h2
  obtain ⟨x3, rfl, hx3⟩ := arg_hash Try.underlying33 Try.underlying5 (by kernel_rfl) (by kernel_rfl) (hval 3 _ _ rfl rfl) h3
  obtain ⟨n4, rfl, hlo4, hhi4⟩ := arg_int Try.underlying3 (hval 4 _ _ rfl rfl) h4
  refine (VintBack_any n0 n1 n4 s2 x3 W hs2 hx3).mono fun e W' ⟨he, hg⟩ => ?_
  subst he
  exact ⟨_, rfl, law_post Try.laidOut (by kernel_rfl) rfl Try.underlying4 rfl rfl hW0 hg⟩

theorem VintBack_holds : Rows.VintBackSaid :=
  OpenClaim.holds_of_wide 5 Try.f5 rfl rfl rfl rfl rfl rfl rfl ⟨rfl, rfl, rfl, rfl, rfl⟩ rfl rfl rfl rfl rfl (by kernel_rfl) Try.func5 (by kernel_rfl)
    (of_decide_eq_true (by kernel_rfl)) (by unfold Func.isWrapper; first | (rw [if_pos (by decide +kernel)]; kernel_rfl) | (rw [if_neg (by decide +kernel)]; exact ⟨rfl, rfl⟩))
    (fun os started H enc _ => VintBack_lifted os started H enc)
end Go.Proofs.Ythccbbdabfpjcaa
