/- A seed's key; the document's own. -/
import Derived.Test.YtepnhepaihpnoaaDoorRegT
namespace Go.Proofs.YtepnhepaihpnoaaDoor
open Go.RowKit

def rkS (t : Nat) : Bool := t == 8 || t == 9 || t == 10 || t == 11 || t == 12 || t == 13 || t == 14 || t == 15 || t == 16 || t == 17
def rkDie (_ : Nat) : Nat := 99
def rkOwn (_ : Nat) : Bool := false
def rkAl (_ : Nat) : Bool := false
def rkF (s : List UInt8) (k : Nat) (u3 : Value) (X0 X1 Y0 Y1 Z : List UInt8) : Nat → Value → World → Prop
  | 0 => fun v _ => v = u3
  | 1 => fun v _ => v = (.agg (s.map bv).toArray)
  | 2 => fun v _ => v = (.int .i64 (k : Int))
  | 3 => fun v _ => v = (.agg (X0.map bv).toArray)
  | 4 => fun v _ => v = (.agg (Y0.map bv).toArray)
  | 5 => fun v _ => v = (.agg (s.map bv).toArray)
  | 6 => fun v _ => v = (.int .i64 (k : Int))
  | 7 => fun v _ => v = (.agg (X1.map bv).toArray)
  | 8 => fun v _ => v = (.agg (Y1.map bv).toArray)
  | 9 => fun v w => ∃ b, v = .slice (some ⟨b, 0, none⟩) 2 2 ∧ RdB w (some ⟨b, 0, none⟩) Z
  | _ => fun _ _ => True
theorem rkF_lasts (s : List UInt8) (k : Nat) (u3 : Value) (X0 X1 Y0 Y1 Z : List UInt8) : ∀ kq, LastsK rkAl true kq (rkF s k u3 X0 X1 Y0 Y1 Z kq)
  | 0 => LastsK.val _
  | 1 => LastsK.val _
  | 2 => LastsK.val _
  | 3 => LastsK.val _
  | 4 => LastsK.val _
  | 5 => LastsK.val _
  | 6 => LastsK.val _
  | 7 => LastsK.val _
  | 8 => LastsK.val _
  | 9 => LastsK.calm fun _ _ _ ⟨b, h1, h2⟩ hg => ⟨b, h1, h2.kept hg⟩
  | _ + 10 => fun _ _ _ _ _ _ _ _ => trivial

set_option maxRecDepth 100000 in
set_option maxHeartbeats 2000000 in
theorem RKey_any (s : List UInt8) (h32 : s.length = 32) (w : World) :
    Calls Tryd.prog 17 #[.agg (s.map bv).toArray] w fun e w' => e = .returned (.agg ((keyL s).map bv).toArray) ∧ w.grownBy w' none := by
  have hsec := fun i v (hi : i < 256) (hv : v < 256) w' => Rsecret_any s h32 i v hi hv w'
  have hpub0 := fun (x : List UInt8) (hx : x.length = 32) w' => Rpublic_any x hx w'
  have HL := Lib.hid h32
  clear h32
  obtain ⟨P, hP⟩ : ∃ P, P = publicL := ⟨_, rfl⟩
  have hPl : ∀ x, (P x).length = 32 := fun x => by rw [hP]; exact publicL_len x
  rw [← hP] at hpub0
  have hq : ∀ i v, pubL s i v = P (secretL s i v) := fun i v => by rw [hP]; rfl
  clear hP
  go_enter Tryd.func17, Tryd.ntmps17
  go_wp2
  have hR : Hid (((w.alloc (.cells (s.map bv).toArray 23)).alloc (.cells (rowH []) 23)).heap[w.heap.size + 1]? = some (.cells (rowH []) 23 (0, 0))) := alloc_at (by simp)
  have hS : Hid (((w.alloc (.cells (s.map bv).toArray 23)).alloc (.cells (rowH []) 23)).heap[w.heap.size]? = some (.cells (s.map bv).toArray 23 (0, 0))) := alloc_old (alloc_at rfl)
  have hg : w.grownBy ((w.alloc (.cells (s.map bv).toArray 23)).alloc (.cells (rowH []) 23)) none := grown_alloc (grown_alloc (grown_refl _ _) _) _
  have hs1 : Hid (((w.alloc (.cells (s.map bv).toArray 23)).alloc (.cells (rowH []) 23)).heap.size = w.heap.size + 1 + 1) := by show _ = _; simp
  change Code.wp _ _ _ _ ((w.alloc (.cells (s.map bv).toArray 23)).alloc (.cells (rowH []) 23))
  generalize (w.alloc (.cells (s.map bv).toArray 23)).alloc (.cells (rowH []) 23) = w1 at hR hS hg hs1 ⊢
  go_loopw [3, 5] (fun x i wz => ∃ k : Nat, k ≤ 32 ∧ i = .int .i64 k ∧ OwnHs wz x (pubF s k) (k * 2) ∧ Grew w1 wz (.slice none 0 0) x) (fun _ i _ => 32 - (intOf i).toNat)
  case atStart => exact ⟨0, by omega, rfl, OwnHs.nil w1, Grew.refl _ _⟩
  case round =>
    obtain ⟨k, hkl, rfl, ho, hgr⟩ := hrel
    by_cases hlt : k < 32
    · have hlt' : (k : Int) < 32 := by omega
      have hs0 := fun w' => hsec k 0 (by omega) (by omega) w'
      have hs1' := fun w' => hsec k 1 (by omega) (by omega) w'
      have hnext := pubF_next s k
      rw [hq, hq] at hnext
      have hlenD := pubF_len s k
      generalize pubF s k = D at ho hnext hlenD
      obtain ⟨X0, hX0⟩ : ∃ X, X = secretL s k 0 := ⟨_, rfl⟩
      obtain ⟨X1, hX1⟩ : ∃ X, X = secretL s k 1 := ⟨_, rfl⟩
      rw [← hX0] at hs0 hnext
      rw [← hX1] at hs1' hnext
      have l0 : X0.length = 32 := by rw [hX0]; exact tagL_len _ _
      have l1 : X1.length = 32 := by rw [hX1]; exact tagL_len _ _
      have hp0 := fun w' => hpub0 X0 l0 w'
      have hp1 := fun w' => hpub0 X1 l1 w'
      have hlit := fun w' => lit_2h (P X0) (P X1) (hPl _) (hPl _) w'
      have hl2 : (P X0 ++ P X1).length = 2 * 32 := by rw [List.length_append, hPl, hPl]
      rw [List.append_assoc] at hnext
      obtain ⟨Z, hZ⟩ : ∃ Z, Z = P X0 ++ P X1 := ⟨_, rfl⟩
      rw [← hZ] at hlit hl2 hnext
      obtain ⟨Y0, hY0⟩ : ∃ Y, Y = P X0 := ⟨_, rfl⟩
      obtain ⟨Y1, hY1⟩ : ∃ Y, Y = P X1 := ⟨_, rfl⟩
      rw [← hY0] at hp0 hlit
      rw [← hY1] at hp1 hlit
      have HN := Lib.hid hnext
      have HZl := Lib.hid hl2
      change ∀ w', Calls Tryd.prog 25 #[.agg (s.map bv).toArray, .int .i64 (k : Int), .int .i64 0] w' _ at hs0
      change ∀ w', Calls Tryd.prog 25 #[.agg (s.map bv).toArray, .int .i64 (k : Int), .int .i64 1] w' _ at hs1'
      clear hX0 hX1 hZ hY0 hY1 hnext hl2 l0 l1 hsec hpub0 hq hPl hlenD
      go_wp2_with fail
      have hgn := hgr.nil
      have hSr := keep_of hS.out hgn
      have hltu : ∀ g, u3.ownBlock = some g → g < wr.heap.size := ho.lt
      refine wp_region_gt (R := none) (i1 := 999) (q := true) (al := rkAl) 10 (N := 22) (S := rkS) (die := rkDie) (own := rkOwn) (F := rkF s k u3 X0 X1 Y0 Y1 Z) (by kernel_rfl) (Nat.le_of_ble_eq_true (by kernel_rfl)) (by kernel_rfl) (by kernel_rfl) (by kernel_rfl) (by kernel_rfl) (Nat.le_of_ble_eq_true (by kernel_rfl)) (fun g e => by cases e) (rkF_lasts s k u3 X0 X1 Y0 Y1 Z) ?_ ?_
      · intro i o L' a w K hi ho hg hgN hLi hout hpre houter hitem h1 h2
        have hcases : i = 0 ∨ i = 1 ∨ i = 2 ∨ i = 3 ∨ i = 4 ∨ i = 5 ∨ i = 6 ∨ i = 7 ∨ i = 8 ∨ i = 9 := by omega
        rcases hcases with rfl | rfl | rfl | rfl | rfl | rfl | rfl | rfl | rfl | rfl
        · cases (show some _ = some o from ho)
          exact ⟨rfl, wp_move rfl (h1 _ _ (grown_refl _ none) (houter _ rfl) (by rw [houter _ rfl]; exact fun g e => Nat.lt_of_lt_of_le (hltu g e) hg.size) (by rw [houter _ rfl]; exact FreshT.old rfl hltu))⟩
        · cases (show some _ = some o from ho)
          exact ⟨rfl, wp_load_row 23 _ rfl _ (houter _ rfl) _ (s.map bv).toArray (0, 0) _ (keep_of hSr hg) Tryd.underlying23 rfl (hashV_size _ (HL.out)) (h1 _ _ (grown_refl _ none) rfl (nob rfl) (.inl rfl))⟩
        · cases (show some _ = some o from ho)
          exact ⟨rfl, wp_move rfl (h1 _ _ (grown_refl _ none) (houter _ rfl) (by rw [houter _ rfl]; exact nob rfl) (by rw [houter _ rfl]; exact .inl rfl))⟩
        · cases (show some _ = some o from ho)
          have x9 : a.eval (.tmp 9) = (.agg (s.map bv).toArray) := hitem 1 (by decide) ⟨hpre 1 rfl, hout _ (by decide)⟩
          have x10 : a.eval (.tmp 10) = (.int .i64 (k : Int)) := hitem 2 (by decide) ⟨hpre 2 rfl, hout _ (by decide)⟩
          refine ⟨rfl, wp_call rfl Tryd.func25 (by kernel_rfl) (by kernel_rfl) (args := #[(.agg (s.map bv).toArray), (.int .i64 (k : Int)), .int .i64 0]) (by simp [eval_const, x9, x10]) ((hs0 w).mono ?_)⟩
          rintro e w' ⟨rfl, hg'⟩
          exact ⟨_, rfl, h1 _ _ hg' rfl (nob rfl) (.inl rfl)⟩
        · cases (show some _ = some o from ho)
          have x11 : a.eval (.tmp 11) = (.agg (X0.map bv).toArray) := hitem 3 (by decide) ⟨hpre 3 rfl, hout _ (by decide)⟩
          refine ⟨rfl, wp_call rfl Tryd.func26 (by kernel_rfl) (by kernel_rfl) (args := #[(.agg (X0.map bv).toArray)]) (by simp [x11]) ((hp0 w).mono ?_)⟩
          rintro e w' ⟨rfl, hg'⟩
          exact ⟨_, rfl, h1 _ _ hg' rfl (nob rfl) (.inl rfl)⟩
        · cases (show some _ = some o from ho)
          exact ⟨rfl, wp_load_row 23 _ rfl _ (houter _ rfl) _ (s.map bv).toArray (0, 0) _ (keep_of hSr hg) Tryd.underlying23 rfl (hashV_size _ (HL.out)) (h1 _ _ (grown_refl _ none) rfl (nob rfl) (.inl rfl))⟩
        · cases (show some _ = some o from ho)
          exact ⟨rfl, wp_move rfl (h1 _ _ (grown_refl _ none) (houter _ rfl) (by rw [houter _ rfl]; exact nob rfl) (by rw [houter _ rfl]; exact .inl rfl))⟩
        · cases (show some _ = some o from ho)
          have x13 : a.eval (.tmp 13) = (.agg (s.map bv).toArray) := hitem 5 (by decide) ⟨hpre 5 rfl, hout _ (by decide)⟩
          have x14 : a.eval (.tmp 14) = (.int .i64 (k : Int)) := hitem 6 (by decide) ⟨hpre 6 rfl, hout _ (by decide)⟩
          refine ⟨rfl, wp_call rfl Tryd.func25 (by kernel_rfl) (by kernel_rfl) (args := #[(.agg (s.map bv).toArray), (.int .i64 (k : Int)), .int .i64 1]) (by simp [eval_const, x13, x14]) ((hs1' w).mono ?_)⟩
          rintro e w' ⟨rfl, hg'⟩
          exact ⟨_, rfl, h1 _ _ hg' rfl (nob rfl) (.inl rfl)⟩
        · cases (show some _ = some o from ho)
          have x15 : a.eval (.tmp 15) = (.agg (X1.map bv).toArray) := hitem 7 (by decide) ⟨hpre 7 rfl, hout _ (by decide)⟩
          refine ⟨rfl, wp_call rfl Tryd.func26 (by kernel_rfl) (by kernel_rfl) (args := #[(.agg (X1.map bv).toArray)]) (by simp [x15]) ((hp1 w).mono ?_)⟩
          rintro e w' ⟨rfl, hg'⟩
          exact ⟨_, rfl, h1 _ _ hg' rfl (nob rfl) (.inl rfl)⟩
        · cases (show some _ = some o from ho)
          exact ⟨rfl, wp_lit2 rfl (hitem 4 (by decide) ⟨hpre 4 rfl, hout _ (by decide)⟩) (hitem 8 (by decide) ⟨hpre 8 rfl, hout _ (by decide)⟩) (hlit _) (h1 _ _ (grown_alloc (grown_refl _ _) _) ⟨_, rfl, rd_row (heap_alloc_new _ _)⟩ (fun g e => by cases (show some _ = some g from e); simp) (.inr (.inl ⟨_, rfl, Nat.le_refl _⟩)))⟩
      · intro a wT hgT hend hap ha
        obtain ⟨f, hf⟩ : ∃ f : Nat → Value, f = fun t => a.tmps.getD t undef := ⟨_, rfl⟩
        have s8 : f 8 = u3 := by rw [hf]; exact (hend 0 (by decide) (by decide)).1
        obtain ⟨b17, q17, hrZ⟩ := (hend 9 (by decide) (by decide)).1
        have s17 := (congrFun hf 17).trans q17
        clear q17
        rw [← hf] at ha
        clear hend hap
        clear hf
        subst ha
        simp only [fill, rkS, Nat.reduceAdd, Nat.reduceBEq, Bool.or_false, Bool.or_true, cond_true, cond_false, List.drop_succ_cons, List.drop_zero, s8, s17]
        clear s8 s17
        go_wp2_with (at_builtin; refine wpList_appH rfl _ _ rfl rfl (ho.kept hgT) rfl hrZ HZl.out (by omega) (by omega) ?_; intro v9 w9 ho9 hgr9)
        go_roundw
        case rel =>
          refine ⟨k + 1, by omega, by go_num, ?_, hgr.trans (Grew.pre hgT hgr9)⟩
          rw [HN.out, Nat.add_mul]
          exact ho9
        case measure => simp [intOf]; omega
    · have hkk : k = 32 := by omega
      subst hkk
      rw [show ((32 : Nat) : Int) = 32 from rfl]
      obtain ⟨gk, ck, rfl, hc1, hc2, hrk⟩ := ho.slice (by omega)
      have hlk := pubF_len s 32
      have hke := fun L (h : L.length = 64 * 32) (h2 : RdB wr (some ⟨gk, 0, none⟩) L) => Rkey_any (some ⟨gk, 0, none⟩) L 64 ck h (by omega) wr h2
      replace hke := hke (pubF s 32) hlk hrk
      obtain ⟨X, hX⟩ : ∃ X, X = tagL 107 (pubF s 32) := ⟨_, rfl⟩
      rw [← hX] at hke
      have HX : Hid (X = keyL s) := by show _ = _; rw [hX, keyL_pubF]
      have hXl : Hid (X.length = 32) := by rw [hX]; exact tagL_len _ _
      have hgn := hgr.nil
      have hR2 := keep_of hR.out hgn
      have hgw := grown_same hg hgn
      clear hX hlk hrk
      go_wp2_with (first
        | (go_at_call 28; refine hke.mono ?_; rintro e w6 ⟨rfl, hg6⟩)
        | (refine wpList_store_row rfl 23 _ _ rfl (w.heap.size + 1) (X.map bv).toArray rfl rfl 23 _ (keep_of hR2 hg6) (hashV_size X hXl.out) (by rw [rowH_size _ (by simp), List.size_toArray, List.length_map, hXl.out]) (bv_all' _) ?_))
      refine bodyPost_ret (results_cell_row rfl _ _ (w.heap.size + 1) 23 (X.map bv).toArray (0, 0) _ rfl (setRow_heap _ _ _ _ _ _ (keep_of hR2 hg6)) Tryd.underlying23 rfl (hashV_size X hXl.out)) rfl ?_
      exact ⟨by rw [HX.out], grown_setRow (grown_same hgw hg6) (.inr (by omega)) _⟩
end Go.Proofs.YtepnhepaihpnoaaDoor
