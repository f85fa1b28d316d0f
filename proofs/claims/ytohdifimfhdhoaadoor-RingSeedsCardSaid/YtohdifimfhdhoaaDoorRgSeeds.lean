/- The law on an identity's sixteen keys: its contract. -/
import Derived.Test.YtohdifimfhdhoaaDoorRingR
namespace Go.Proofs.YtohdifimfhdhoaaDoor
open Go.RowKit

/-- A part that lies in a row of bytes of the call's own. -/
def PartW (w : World) (p : Part) : Prop := RdB w p.1 p.2.1 ∧ ∃ b cs fr, p.1 = some ⟨b, 0, none⟩ ∧ w.heap[b]? = some (.cells cs 5 fr)
theorem PartW.kept {w w' : World} {p : Part} (h : PartW w p) (hg : w.grownBy w' none) : PartW w' p := by
  obtain ⟨hr, b, cs, fr, e, hb⟩ := h
  exact ⟨hr.kept hg, b, cs, fr, e, keep_of hb hg⟩
theorem PartW.keep {w w' : World} {p : Part} {v : Value} {xs : List Value} (h : PartW w p) (ho : OwnV 30 w v xs) (hg : w.grownBy w' v.ownBlock) : PartW w' p := by
  obtain ⟨hr, b, cs, fr, e, hb⟩ := h
  have hne : v.ownBlock ≠ some b := fun e2 => by
    obtain ⟨cs', fr', h2⟩ := ho.block b e2
    rw [hb] at h2
    cases h2
  refine ⟨hr.keep hg (fun ad e1 e2 => ?_), b, cs, fr, e, other_block hb hg (fun e2 => hne e2.symm)⟩
  rw [e] at e1
  cases e1
  exact hne e2.symm
theorem partW_of {w : World} {v : Value} {l : List UInt8} (h : OwnB w v l) (hl : 0 < l.length) : ∃ b c, v = .slice (some ⟨b, 0, none⟩) l.length c ∧ PartW w (some ⟨b, 0, none⟩, l, c) := by
  obtain ⟨A, c, e, -, -, hr⟩ := h.slice
  obtain ⟨base, hb, h⟩ := h
  rcases h.2 with ⟨e1, e2⟩ | ⟨g, cap, cur, rfl, _, h3, _⟩
  · obtain ⟨_, h0, _⟩ := Value.slice.inj (e1.symm.trans e)
    omega
  · obtain ⟨hA, -, -⟩ := Value.slice.inj e
    subst hA
    exact ⟨g, cap, by rw [List.length_map], hr, g, _, _, rfl, h3⟩

def gkaS (t : Nat) : Bool := t == 4 || t == 33 || t == 34 || t == 35 || t == 36 || t == 37 || t == 38 || t == 39 || t == 40 || t == 41 || t == 42 || t == 43 || t == 44 || t == 45 || t == 46 || t == 47 || t == 48 || t == 49 || t == 50 || t == 51 || t == 52 || t == 53 || t == 54 || t == 55 || t == 56 || t == 57 || t == 58
def gkaDie (_ : Nat) : Nat := 99
def gkaOwn (k : Nat) : Bool := k == 11
def gkaAl (k : Nat) : Bool := k == 2 || k == 7 || k == 8 || k == 16
def gkaF (A : Option Addr) (c i g10 g3 c3 : Nat) (s I P : List UInt8) : Nat → Value → World → Prop
  | 0 => fun v _ => v = (.agg (s.map bv).toArray)
  | 1 => fun v _ => v = (.agg (I.map bv).toArray)
  | 2 => fun v _ => v = .slice A 16 c
  | 3 => fun v _ => v = (.agg (I.map bv).toArray)
  | 4 => fun v _ => v = .bool true
  | 5 => fun v _ => v = .bool true
  | 6 => fun v _ => v = .pointer (some ⟨g10, 3, none⟩)
  | 7 => fun v _ => v = .slice (some ⟨g3, 0, none⟩) 4 c3
  | 8 => fun v _ => v = .slice A 16 c
  | 9 => fun v _ => v = .int .i64 ((i : Int) + 1)
  | 10 => fun v _ => v = .int .i64 (i : Int)
  | 11 => fun v w => OwnHs w v P 4
  | 12 => fun v _ => v = .bool true
  | 13 => fun v _ => v = .bool true
  | 14 => fun v _ => v = .bool true
  | 15 => fun v _ => v = .pointer (some ⟨g10, 3, none⟩)
  | 16 => fun v _ => v = .slice (some ⟨g3, 0, none⟩) 4 c3
  | 17 => fun v _ => v = .int .i64 ((4 : Nat) : Int)
  | 18 => fun v _ => v = .int .i64 ((i : Int) + 1)
  | 19 => fun v _ => v = .int .i64 (i : Int)
  | 20 => fun v _ => v = .int .i64 ((4 : Nat) : Int)
  | 21 => fun v _ => v = .bool true
  | 22 => fun v _ => v = .bool true
  | 23 => fun v _ => v = .bool true
  | 24 => fun v _ => v = .bool true
  | 25 => fun v _ => v = .bool true
  | 26 => fun v _ => v = .bool true
  | _ => fun _ _ => True
theorem gkaF_lasts (A : Option Addr) (c i g10 g3 c3 : Nat) (s I P : List UInt8) : ∀ kq, LastsB gkaAl kq (gkaF A c i g10 g3 c3 s I P kq)
  | 0 => LastsB.val _
  | 1 => LastsB.val _
  | 2 => LastsB.val _
  | 3 => LastsB.val _
  | 4 => LastsB.val _
  | 5 => LastsB.val _
  | 6 => LastsB.val _
  | 7 => LastsB.val _
  | 8 => LastsB.val _
  | 9 => LastsB.val _
  | 10 => LastsB.val _
  | 11 => LastsB.ownH rfl _ _
  | 12 => LastsB.val _
  | 13 => LastsB.val _
  | 14 => LastsB.val _
  | 15 => LastsB.val _
  | 16 => LastsB.val _
  | 17 => LastsB.val _
  | 18 => LastsB.val _
  | 19 => LastsB.val _
  | 20 => LastsB.val _
  | 21 => LastsB.val _
  | 22 => LastsB.val _
  | 23 => LastsB.val _
  | 24 => LastsB.val _
  | 25 => LastsB.val _
  | 26 => LastsB.val _
  | _ + 27 => fun _ _ _ _ _ _ _ => trivial

set_option maxRecDepth 100000 in
set_option maxHeartbeats 2000000 in
theorem RingSeeds_any (s : List UInt8) (h32 : s.length = 32) (n1 : Int) (W0 : World) (hk : Laid2 W0) :
    Calls Tryd.prog 7 #[.agg (s.map bv).toArray, .int .i64 n1] W0 fun e w' => e = .returned (.bool true) ∧ W0.grownBy w' none := by
  have hS : Hid (s.length = 32) := h32
  clear h32
  obtain ⟨i, hi, hWi⟩ : ∃ i : Nat, i < 16 ∧ ∀ w, Calls Tryd.prog 11 #[.int .i64 n1, .int .i64 1, .int .i64 16] w fun e w' => e = .returned (.int .i64 ((i : Int) + 1)) ∧ w = w' := by
    have hb := within_le (n := n1) (lo := 1) (hi := 16) (by omega)
    refine ⟨(within n1 1 16 - 1).toNat, by omega, fun w => ?_⟩
    rw [show ((within n1 1 16 - 1).toNat : Int) + 1 = within n1 1 16 by omega]
    exact Within_any n1 1 16 w (by omega) (by omega) (by omega)
  go_enter Tryd.func7, Tryd.ntmps7
  go_wp2
  generalize hW : World.alloc W0 _ = W
  have hb : W.heap[W0.heap.size]? = some (.cells (s.map bv).toArray 23 (0, 0)) := by rw [← hW]; exact alloc_at rfl
  have hgW : W0.grownBy W none := by rw [← hW]; exact grown_alloc (grown_refl _ _) _
  replace hW := Lib.hid hW
  have hkW := hk.kept hgW
  go_loopw [5, 6] (fun x i wz => ∃ (k : Nat) (ps : List Part), k ≤ 16 ∧ i = .int .i64 ((k + 1 : Nat) : Int) ∧ OwnV 30 wz x (ps.map pv) ∧ Hid (leavesOf ps = (List.range k).map fun i => keyL (seedR s (i + 1))) ∧ (∀ p ∈ ps, PartW wz p) ∧ Grew W wz (.slice none 0 0) x) (fun _ i _ => 20 - (intOf i).toNat)
  case atStart => exact ⟨0, [], by omega, rfl, OwnV.nil _, rfl, by simp, Grew.refl _ _⟩
  case round =>
    obtain ⟨k, ps, hkl, rfl, ho, hps, hpb, hgr⟩ := hrel
    have hgn := hgr.nil
    have hpk : Hid (ps.length = k) := by
      have := congrArg List.length hps.out
      rwa [leavesOf_len, List.length_map, List.length_range] at this
    have hbr := keep_of hb hgn
    have hkr := hkW.kept hgn
    by_cases hk1 : k < 16
    · have hk' : ((k + 1 : Nat) : Int) ≤ 16 := by omega
      have hsd := fun w' (h : Laid2 w') => Seed_any s hS.out (k + 1) (by omega) w' h
      obtain ⟨Y, hY⟩ : ∃ Y, Y = seedR s (k + 1) := ⟨_, rfl⟩
      rw [← hY] at hsd
      have hYl : Hid (Y.length = 32) := by rw [hY]; exact seedR_len _ _
      have hky := fun w' (h : Laid2 w') => Key_any Y hYl.out w' h
      obtain ⟨X, hX⟩ : ∃ X, X = keyL Y := ⟨_, rfl⟩
      have hXl : Hid (X.length = 32) := by rw [hX]; exact keyL_len' _
      have HN : Hid (∀ p : Part, p.2.1 = X → leavesOf (ps ++ [p]) = (List.range (k + 1)).map fun i => keyL (seedR s (i + 1))) := fun p hp => keys_next s k ps p hps.out (by rw [hp, hX, hY])
      rw [← hX] at hky
      clear hX hY hps
      go_wp2_with (first
        | (refine wpList_load_row rfl 23 _ rfl (W0.heap.size) rfl _ (s.map bv).toArray (0, 0) _ (hbr) Tryd.underlying23 rfl (hashV_size s hS.out) ?_)
        | (go_at_call 15; refine (hsd _ hkr).mono ?_; rintro e w5 ⟨rfl, hg5⟩)
        | (refine wpList_store_row rfl 23 _ _ rfl (w5.heap.size) (Y.map bv).toArray rfl rfl 23 _ (alloc_at rfl) (hashV_size _ hYl.out) (by rw [show (Y.map bv).toArray.size = 32 from by rw [List.size_toArray, List.length_map, hYl.out]]; rfl) (bv_all' _) ?_; generalize hV1 : World.setRow _ _ _ = V1; have HV1 := new_hash hV1; clear hV1)
        | (refine wpList_load_row rfl 23 _ rfl (w5.heap.size) rfl _ (Y.map bv).toArray (0, 0) _ (HV1.1) Tryd.underlying23 rfl (hashV_size Y hYl.out) ?_)
        | (go_at_call 19; refine (hky _ ((hkr.kept hg5).kept HV1.2)).mono ?_; rintro e w6 ⟨rfl, hg6⟩)
        | (refine wpList_store_row rfl 23 _ _ rfl (w6.heap.size) (X.map bv).toArray rfl rfl 23 _ (alloc_at rfl) (hashV_size _ hXl.out) (by rw [show (X.map bv).toArray.size = 32 from by rw [List.size_toArray, List.length_map, hXl.out]]; rfl) (bv_all' _) ?_; generalize hV2 : World.setRow _ _ _ = V2; have HV2 := new_hash hV2; clear hV2)
        | (at_builtin; refine wpList_appB _ rfl _ _ rfl rfl (ownB_new _ _ [] 0 rfl rfl (by unfold maxLen; omega)) rfl hXl.out.symm ((rd_row HV2.1).alloc _) (by rw [hXl.out]; simp) ?_; intro v7 w7 ho7 hgr7; rw [List.nil_append] at ho7; have hg7 : V2.grownBy w7 none := hgr7.fresh.nil; obtain ⟨b7, c7, e7, hp7⟩ := partW_of ho7 (by rw [hXl.out]; omega); subst e7; have hgV : wr.grownBy w7 none := grown_same (grown_same (grown_same hg5 HV1.2) (grown_same hg6 HV2.2)) hg7)
        | (at_builtin; refine wpList_appV _ rfl _ _ 44 rfl Tryd.underlying44 info_listT rfl rfl ((ho.kept hgV).alloc _) (news := [pv (some ⟨b7, 0, none⟩, X, c7)]) rfl rfl (rd_row (cs := [_]) (alloc_at rfl)) (by intro u hu; rw [List.mem_singleton] at hu; subst hu; rfl) (by rw [List.length_map, hpk.out]; simp; omega) (by rw [List.length_map, hpk.out]; unfold maxLen; simp; omega) ?_; intro v8 w8 ho8 hgr8))
      go_roundw
      case rel =>
        refine ⟨k + 1, ps ++ [(some ⟨b7, 0, none⟩, X, c7)], by omega, by go_num, by rw [List.map_append]; exact ho8, HN.out _ rfl, ?_, hgr.trans (Grew.pre (grown_alloc hgV _) hgr8)⟩
        intro q hq
        rcases List.mem_append.1 hq with hq | hq
        · exact ((hpb q hq).kept (grown_alloc hgV _)).keep ((ho.kept hgV).alloc _) hgr8.1
        · rw [List.mem_singleton] at hq
          subst hq
          exact (hp7.kept (grown_alloc (grown_refl _ _) _)).keep ((ho.kept hgV).alloc _) hgr8.1
      case measure => simp [intOf]; omega
    · have hk' : ¬ ((k + 1 : Nat) : Int) ≤ 16 := by omega
      have hkk : k = 16 := by omega
      obtain ⟨A, c, rfl, hc, hcm, hrA⟩ := ho.slice
      rw [List.length_map, hpk.out, hkk] at hc ⊢
      have hrP : RdP wr A ps := ⟨hrA, fun p hp => (hpb p hp).1⟩
      have hl : leavesOf ps = keysR s := hps.out.trans (by rw [hkk]; rfl)
      have hn16 : ps.length = 16 := hpk.out.trans hkk
      have hgX : W0.grownBy wr none := grown_same hgW hgn
      have hsg := fun A w' (h : Laid2 w') (hr : RdB w' A [109]) => (show Calls Tryd.prog 8 #[.agg (s.map bv).toArray, .int .i64 ((i : Int) + 1), .slice A 1 1] w' (fun e w'' => SigR w' s [109] i e w'') from Sign_in s hS.out i hi A [109] 1 w' h hr (by simp))
      have hcv := conv_const
      have nf : ∀ (w : World) (C : Array Value) (t : TypeId) (fr : Nat × Nat), (w.alloc (.cells C t fr)).heap[w.heap.size]? = some (.cells C t fr) := fun w C t fr => heap_alloc_new _ _
      clear hpb hrA hps ho hb hpk
      go_upto_region 10 with (first
        | (go_at_call 11; refine (hWi _).mono ?_; rintro e w5 ⟨rfl, h5w⟩; obtain rfl : wr = w5 := h5w)
        | (refine wpList_load_row rfl 23 _ rfl (W0.heap.size) rfl _ (s.map bv).toArray (0, 0) _ (hbr) Tryd.underlying23 rfl (hashV_size s hS.out) ?_)
        | (go_at_call 8; refine (hsg _ _ (hkr.kept (grown_alloc (grown_refl _ _) _)) (rd_row (cs := ([109] : List UInt8).map bv) (nf _ _ _ _))).mono ?_; rintro e w6 ⟨v, rfl, ⟨g1, c1, g2, c2, g3, c3, rfl, a1, a2, a3, a4, a5, a6, r1, r2, r3, n1, n2, n3⟩, hg6⟩)
        | (refine wpList_store_row rfl 28 _ _ rfl (w6.heap.size) #[.int .i64 ((i : Int) + 1), .slice (some ⟨g1, 0, none⟩) 32 c1, .slice (some ⟨g2, 0, none⟩) 32 c2, .slice (some ⟨g3, 0, none⟩) 4 c3] rfl rfl 28 _ (alloc_at rfl) size_sig rfl (sig_all _ _ _ _ rfl rfl rfl rfl) ?_; generalize hU3 : World.setRow _ _ _ = W4; have HU3 := new_hash hU3; clear hU3))
      have hgW4 : wr.grownBy W4 none := grown_same (grown_same (grown_alloc (grown_refl _ _) _) hg6) HU3.2
      have hb4 := keep_of hbr hgW4
      have hS4 := HU3.1
      have r34 := r3.kept HU3.2
      replace hk := hkr.kept hgW4
      replace hrP := hrP.kept hgW4
      have hid := fun w' (h : Laid2 w') => Ident_any s hS.out w' h
      have hro := fun w' (h : W4.grownBy w' none) => Root_any 16 A ps c w' hn16 hc (by omega) (leaf_le hl) (hk.kept h) (hrP.kept h)
      have hpa := fun w' (h : W4.grownBy w' none) => Path_any 16 A ps c i w' hn16 hc (by omega) (by omega) (leaf_le hl) (hk.kept h) (hrP.kept h)
      rw [hl] at hro hpa
      rw [pathR_n s i hi] at hpa
      obtain ⟨I, hI⟩ : ∃ I, I = identR s := ⟨_, rfl⟩
      obtain ⟨P, hP⟩ : ∃ P, P = pathR s i := ⟨_, rfl⟩
      have hIl : Hid (I.length = 32) := by rw [hI]; exact identR_len s
      have hPl : Hid (P.length = 4 * 32) := by rw [hP]; exact pathR_len s i hi
      rw [← identR, ← hI] at hro
      rw [← pathR, ← hP] at hpa
      rw [← hI] at hid
      rw [← hP] at r34
      have hdp : ∀ w', Calls Tryd.prog 22 #[.int .i64 (i : Int), .int .i64 16] w' fun e w'' => e = .returned (.int .i64 ((4 : Nat) : Int)) ∧ w'.grownBy w'' none := fun w' => by
        have h := Depth_any i 16 hi (by omega) w'
        rw [show depthN i 16 = 4 from depthN_pow 4 i hi] at h
        exact h.mono fun e w'' h => ⟨h.1, by rw [h.2]; exact grown_refl _ _⟩
      have hsub1 : ∀ w', (binOp .sub 3 (.int .i64 ((i : Int) + 1)) (.int .i64 1)).run Tryd.prog w' = .ok (.int .i64 (i : Int)) w' := fun w' => by
        have := sub_nat (i + 1) 1 (by omega) (by omega) w'
        exact this
      have hgX4 := grown_same hgX hgW4
      clear HU3 r1 r2 r3 hg6 hsg hWi hcv nf hbr hI hP hl hrP
      generalize w6.heap.size = g10 at hS4 ⊢
      refine wp_region_gc (al := gkaAl) 27 (N := 59) (S := gkaS) (die := gkaDie) (own := gkaOwn) (F := gkaF A c i g10 g3 c3 s I P) (by kernel_rfl) (Nat.le_of_ble_eq_true (by kernel_rfl)) (fun h => absurd (show 27 < 27 from h) (Nat.lt_irrefl _)) (fun h => absurd (show 27 < 27 from h) (Nat.lt_irrefl _)) (by kernel_rfl) (by kernel_rfl) (Nat.le_of_ble_eq_true (by kernel_rfl)) (gkaF_lasts A c i g10 g3 c3 s I P) ?_ ?_
      · intro i o L' a w K hi ho hg hLi hout hpre houter hitem hap' h1 h2 h3 h4
        have hcases : i = 0 ∨ i = 1 ∨ i = 2 ∨ i = 3 ∨ i = 4 ∨ i = 5 ∨ i = 6 ∨ i = 7 ∨ i = 8 ∨ i = 9 ∨ i = 10 ∨ i = 11 ∨ i = 12 ∨ i = 13 ∨ i = 14 ∨ i = 15 ∨ i = 16 ∨ i = 17 ∨ i = 18 ∨ i = 19 ∨ i = 20 ∨ i = 21 ∨ i = 22 ∨ i = 23 ∨ i = 24 ∨ i = 25 ∨ i = 26 := by omega
        rcases hcases with rfl | rfl | rfl | rfl | rfl | rfl | rfl | rfl | rfl | rfl | rfl | rfl | rfl | rfl | rfl | rfl | rfl | rfl | rfl | rfl | rfl | rfl | rfl | rfl | rfl | rfl | rfl
        · cases (show some _ = some o from ho)
          refine .inl ?_
          exact ⟨rfl, wp_load_row 23 _ rfl _ (houter _ rfl) _ (s.map bv).toArray (0, 0) _ (keep_of hb4 hg) Tryd.underlying23 rfl (hashV_size _ (hS.out)) (h1 ⟨_, rfl⟩ _ _ (grown_refl _ none) rfl (nobl (blocks_bytes _)) (FreshB.none (blocks_bytes _)))⟩
        · cases (show some _ = some o from ho)
          refine .inl ?_
          have x33 : a.eval (.tmp 33) = (.agg (s.map bv).toArray) := hitem 0 (by decide) ⟨hpre 0 rfl, hout _ (by decide)⟩
          refine ⟨rfl, wp_call rfl Tryd.func9 (by kernel_rfl) (by kernel_rfl) (args := #[.agg (s.map bv).toArray]) (by simp [x33]) ((hid w (hk.kept hg)).mono ?_)⟩
          rintro e w' ⟨rfl, hg'⟩
          exact ⟨_, rfl, h1 ⟨_, rfl⟩ _ _ hg' rfl (nobl (blocks_bytes _)) (FreshB.none (blocks_bytes _))⟩
        · cases (show some _ = some o from ho)
          refine .inl ?_
          exact ⟨rfl, wp_move rfl (h1 ⟨_, rfl⟩ _ _ (grown_refl _ none) (houter _ rfl) (by rw [houter _ rfl]; exact nobl rfl) (by rw [houter _ rfl]; exact FreshB.none rfl))⟩
        · cases (show some _ = some o from ho)
          refine .inl ?_
          have x35 : a.eval (.tmp 35) = .slice A 16 c := hitem 2 (by decide) ⟨hpre 2 rfl, hout _ (by decide)⟩
          refine ⟨rfl, wp_call rfl Tryd.func20 (by kernel_rfl) (by kernel_rfl) (args := #[.slice A 16 c]) (by simp [x35]) ((hro w hg).mono ?_)⟩
          rintro e w' ⟨rfl, hg'⟩
          exact ⟨_, rfl, h1 ⟨_, rfl⟩ _ _ hg' rfl (nobl (blocks_bytes _)) (FreshB.none (blocks_bytes _))⟩
        · cases (show some _ = some o from ho)
          refine .inl ?_
          exact ⟨rfl, wp_bin rfl (hitem 1 (by decide) ⟨hpre 1 rfl, hout _ (by decide)⟩) (hitem 3 (by decide) ⟨hpre 3 rfl, hout _ (by decide)⟩) (guard_hash _ _ _ _ _) (eqlH_same I hIl.out _) (h1 ⟨_, rfl⟩ _ _ (grown_refl _ none) rfl (nobl rfl) (FreshB.none rfl))⟩
        · cases (show some _ = some o from ho)
          refine .inl ?_
          have hx := hitem 4 (by decide) ⟨hpre 4 rfl, hout _ (by decide)⟩
          exact ⟨rfl, wp_move rfl (h1 ⟨_, rfl⟩ _ _ (grown_refl _ none) hx (by rw [show a.eval (.tmp 37) = .bool true from hx]; exact nobl rfl) (by rw [show a.eval (.tmp 37) = .bool true from hx]; exact FreshB.none rfl))⟩
        · cases (show some _ = some o from ho)
          refine .inl ?_
          exact ⟨wanted_of (j := 5) rfl rfl (hitem 5 (by decide) ⟨hpre 5 rfl, hout _ (by decide)⟩), wp_field rfl (houter 10 rfl) (field_S2 _) (h1 ⟨_, rfl⟩ _ _ (grown_refl _ none) rfl (nobl rfl) (FreshB.none rfl))⟩
        · cases (show some _ = some o from ho)
          refine .inl ?_
          exact ⟨wanted_of (j := 5) rfl rfl (hitem 5 (by decide) ⟨hpre 5 rfl, hout _ (by decide)⟩), wp_loadC rfl (hitem 6 (by decide) ⟨hpre 6 rfl, hout _ (by decide)⟩) (load_cell (cell_at3 (keep_of hS4 hg)) Tryd.underlying24 rfl) (h1 ⟨_, rfl⟩ _ _ (grown_refl _ none) rfl (nobl rfl) (FreshB.none rfl))⟩
        · cases (show some _ = some o from ho)
          refine .inl ?_
          exact ⟨wanted_of (j := 5) rfl rfl (hitem 5 (by decide) ⟨hpre 5 rfl, hout _ (by decide)⟩), wp_move rfl (h1 ⟨_, rfl⟩ _ _ (grown_refl _ none) (houter _ rfl) (by rw [houter _ rfl]; exact nobl rfl) (by rw [houter _ rfl]; exact FreshB.none rfl))⟩
        · cases (show some _ = some o from ho)
          refine .inl ?_
          exact ⟨wanted_of (j := 5) rfl rfl (hitem 5 (by decide) ⟨hpre 5 rfl, hout _ (by decide)⟩), wp_move rfl (h1 ⟨_, rfl⟩ _ _ (grown_refl _ none) (houter _ rfl) (by rw [houter _ rfl]; exact nobl rfl) (by rw [houter _ rfl]; exact FreshB.none rfl))⟩
        · cases (show some _ = some o from ho)
          refine .inl ?_
          exact ⟨wanted_of (j := 5) rfl rfl (hitem 5 (by decide) ⟨hpre 5 rfl, hout _ (by decide)⟩), wp_bin rfl (hitem 9 (by decide) ⟨hpre 9 rfl, hout _ (by decide)⟩) rfl (guard_subI _ _ _ _ _) (hsub1 _) (h1 ⟨_, rfl⟩ _ _ (grown_refl _ none) rfl (nobl rfl) (FreshB.none rfl))⟩
        · cases (show some _ = some o from ho)
          refine .inl ?_
          have x41 : a.eval (.tmp 41) = .slice A 16 c := hitem 8 (by decide) ⟨hpre 8 rfl, hout _ (by decide)⟩
          have x43 : a.eval (.tmp 43) = .int .i64 (i : Int) := hitem 10 (by decide) ⟨hpre 10 rfl, hout _ (by decide)⟩
          refine ⟨wanted_of (j := 5) rfl rfl (hitem 5 (by decide) ⟨hpre 5 rfl, hout _ (by decide)⟩), wp_call rfl Tryd.func21 (by kernel_rfl) (by kernel_rfl) (args := #[.slice A 16 c, .int .i64 (i : Int)]) (by simp [x41, x43]) ((hpa w hg).mono ?_)⟩
          rintro e w' ⟨v, rfl, hf', hg', hn', ht'⟩
          exact ⟨_, rfl, h1 ⟨_, rfl⟩ _ _ hg' hf' ht' (FreshB.new hn')⟩
        · cases (show some _ = some o from ho)
          refine .inl ?_
          have x40 : a.eval (.tmp 40) = .slice (some ⟨g3, 0, none⟩) 4 c3 := hitem 7 (by decide) ⟨hpre 7 rfl, hout _ (by decide)⟩
          obtain ⟨g, cq, x44, -, -, hrq⟩ := OwnHs.slice (hitem 11 (by decide) ⟨hpre 11 rfl, hout _ (by decide)⟩) (by omega)
          replace x44 : a.eval (.tmp 44) = _ := x44
          refine ⟨wanted_of (j := 5) rfl rfl (hitem 5 (by decide) ⟨hpre 5 rfl, hout _ (by decide)⟩), wp_call rfl Tryd.func13 (by kernel_rfl) (by kernel_rfl) (args := #[.slice (some ⟨g3, 0, none⟩) 4 c3, .slice (some ⟨g, 0, none⟩) 4 cq]) (by simp [x40, x44]) ((SameP_any _ _ 4 c3 cq P (by omega) hPl.out w (r34.kept hg) hrq (fun _ => ⟨_, rfl⟩) (fun _ => ⟨_, rfl⟩)).mono ?_)⟩
          rintro e w' ⟨rfl, hg'⟩
          exact ⟨_, rfl, h1 ⟨_, rfl⟩ _ _ hg' rfl (nobl rfl) (FreshB.none rfl)⟩
        · cases (show some _ = some o from ho)
          refine .inl ?_
          have hc := hitem 5 (by decide) ⟨hpre 5 rfl, hout _ (by decide)⟩
          have hx := hitem 12 (by decide) ⟨hpre 12 rfl, hout _ (by decide)⟩
          exact ⟨rfl, wp_pick rfl hc (h1 ⟨_, rfl⟩ _ _ (grown_refl _ none) hx (by rw [show a.eval (.tmp 45) = .bool true from hx]; exact nobl rfl) (by rw [show a.eval (.tmp 45) = .bool true from hx]; exact FreshB.none rfl))⟩
        · cases (show some _ = some o from ho)
          refine .inl ?_
          have hx := hitem 13 (by decide) ⟨hpre 13 rfl, hout _ (by decide)⟩
          exact ⟨rfl, wp_move rfl (h1 ⟨_, rfl⟩ _ _ (grown_refl _ none) hx (by rw [show a.eval (.tmp 46) = .bool true from hx]; exact nobl rfl) (by rw [show a.eval (.tmp 46) = .bool true from hx]; exact FreshB.none rfl))⟩
        · cases (show some _ = some o from ho)
          refine .inl ?_
          exact ⟨wanted_of (j := 14) rfl rfl (hitem 14 (by decide) ⟨hpre 14 rfl, hout _ (by decide)⟩), wp_field rfl (houter 10 rfl) (field_S2 _) (h1 ⟨_, rfl⟩ _ _ (grown_refl _ none) rfl (nobl rfl) (FreshB.none rfl))⟩
        · cases (show some _ = some o from ho)
          refine .inl ?_
          exact ⟨wanted_of (j := 14) rfl rfl (hitem 14 (by decide) ⟨hpre 14 rfl, hout _ (by decide)⟩), wp_loadC rfl (hitem 15 (by decide) ⟨hpre 15 rfl, hout _ (by decide)⟩) (load_cell (cell_at3 (keep_of hS4 hg)) Tryd.underlying24 rfl) (h1 ⟨_, rfl⟩ _ _ (grown_refl _ none) rfl (nobl rfl) (FreshB.none rfl))⟩
        · cases (show some _ = some o from ho)
          refine .inl ?_
          exact ⟨wanted_of (j := 14) rfl rfl (hitem 14 (by decide) ⟨hpre 14 rfl, hout _ (by decide)⟩), wp_len rfl (by kernel_rfl) (hitem 16 (by decide) ⟨hpre 16 rfl, hout _ (by decide)⟩) (h1 ⟨_, rfl⟩ _ _ (grown_refl _ none) rfl (nobl rfl) (FreshB.none rfl))⟩
        · cases (show some _ = some o from ho)
          refine .inl ?_
          exact ⟨wanted_of (j := 14) rfl rfl (hitem 14 (by decide) ⟨hpre 14 rfl, hout _ (by decide)⟩), wp_move rfl (h1 ⟨_, rfl⟩ _ _ (grown_refl _ none) (houter _ rfl) (by rw [houter _ rfl]; exact nobl rfl) (by rw [houter _ rfl]; exact FreshB.none rfl))⟩
        · cases (show some _ = some o from ho)
          refine .inl ?_
          exact ⟨wanted_of (j := 14) rfl rfl (hitem 14 (by decide) ⟨hpre 14 rfl, hout _ (by decide)⟩), wp_bin rfl (hitem 18 (by decide) ⟨hpre 18 rfl, hout _ (by decide)⟩) rfl (guard_subI _ _ _ _ _) (hsub1 _) (h1 ⟨_, rfl⟩ _ _ (grown_refl _ none) rfl (nobl rfl) (FreshB.none rfl))⟩
        · cases (show some _ = some o from ho)
          refine .inl ?_
          have x52 : a.eval (.tmp 52) = .int .i64 (i : Int) := hitem 19 (by decide) ⟨hpre 19 rfl, hout _ (by decide)⟩
          refine ⟨wanted_of (j := 14) rfl rfl (hitem 14 (by decide) ⟨hpre 14 rfl, hout _ (by decide)⟩), wp_call rfl Tryd.func22 (by kernel_rfl) (by kernel_rfl) (args := #[.int .i64 (i : Int), .int .i64 16]) (by simp [eval_const, x52]) ((hdp w).mono ?_)⟩
          rintro e w' ⟨rfl, hg'⟩
          exact ⟨_, rfl, h1 ⟨_, rfl⟩ _ _ hg' rfl (nobl rfl) (FreshB.none rfl)⟩
        · cases (show some _ = some o from ho)
          refine .inl ?_
          exact ⟨wanted_of (j := 14) rfl rfl (hitem 14 (by decide) ⟨hpre 14 rfl, hout _ (by decide)⟩), wp_bin rfl (hitem 17 (by decide) ⟨hpre 17 rfl, hout _ (by decide)⟩) (hitem 20 (by decide) ⟨hpre 20 rfl, hout _ (by decide)⟩) (guard_int _ _ _ _ _) (eql_i64 _ _ _ (rfl)) (h1 ⟨_, rfl⟩ _ _ (grown_refl _ none) rfl (nobl rfl) (FreshB.none rfl))⟩
        · cases (show some _ = some o from ho)
          refine .inl ?_
          have hc := hitem 14 (by decide) ⟨hpre 14 rfl, hout _ (by decide)⟩
          have hx := hitem 21 (by decide) ⟨hpre 21 rfl, hout _ (by decide)⟩
          exact ⟨rfl, wp_pick rfl hc (h1 ⟨_, rfl⟩ _ _ (grown_refl _ none) hx (by rw [show a.eval (.tmp 54) = .bool true from hx]; exact nobl rfl) (by rw [show a.eval (.tmp 54) = .bool true from hx]; exact FreshB.none rfl))⟩
        · cases (show some _ = some o from ho)
          refine .inl ?_
          have hx := hitem 22 (by decide) ⟨hpre 22 rfl, hout _ (by decide)⟩
          exact ⟨rfl, wp_move rfl (h1 ⟨_, rfl⟩ _ _ (grown_refl _ none) hx (by rw [show a.eval (.tmp 55) = .bool true from hx]; exact nobl rfl) (by rw [show a.eval (.tmp 55) = .bool true from hx]; exact FreshB.none rfl))⟩
        · cases (show some _ = some o from ho)
          refine .inl ?_
          refine ⟨wanted_of (j := 23) rfl rfl (hitem 23 (by decide) ⟨hpre 23 rfl, hout _ (by decide)⟩), wp_call rfl Tryd.func3 (by kernel_rfl) (by kernel_rfl) (args := #[]) (by simp) ((RingRuns_any w (hk.kept hg)).mono ?_)⟩
          rintro e w' ⟨rfl, hg'⟩
          exact ⟨_, rfl, h1 ⟨_, rfl⟩ _ _ hg' rfl (nobl rfl) (FreshB.none rfl)⟩
        · cases (show some _ = some o from ho)
          refine .inl ?_
          have hc := hitem 23 (by decide) ⟨hpre 23 rfl, hout _ (by decide)⟩
          have hx := hitem 24 (by decide) ⟨hpre 24 rfl, hout _ (by decide)⟩
          exact ⟨rfl, wp_pick rfl hc (h1 ⟨_, rfl⟩ _ _ (grown_refl _ none) hx (by rw [show a.eval (.tmp 57) = .bool true from hx]; exact nobl rfl) (by rw [show a.eval (.tmp 57) = .bool true from hx]; exact FreshB.none rfl))⟩
        · cases (show some _ = some o from ho)
          refine .inl ?_
          have hx := hitem 25 (by decide) ⟨hpre 25 rfl, hout _ (by decide)⟩
          exact ⟨rfl, wp_assign rfl (h1 ⟨_, rfl⟩ _ _ (grown_refl _ none) hx (by rw [show a.eval (.tmp 58) = .bool true from hx]; exact nobl rfl) (by rw [show a.eval (.tmp 58) = .bool true from hx]; exact FreshB.none rfl))⟩
      · intro a wT hgT hend hap ha
        obtain ⟨f, hf⟩ : ∃ f : Nat → Value, f = fun t => a.tmps.getD t undef := ⟨_, rfl⟩
        have s4 : f 4 = .bool true := by rw [hf]; exact (hend 26 (by decide) (by decide)).1
        rw [← hf] at ha
        clear hend hap
        clear hf
        subst ha
        simp only [Act.put, fill, gkaS, Nat.reduceAdd, Nat.reduceBEq, Bool.or_false, Bool.or_true, cond_true, cond_false, List.drop_succ_cons, List.drop_zero, s4]
        clear s4
        go_wp2_with fail
        go_ret
        exact ⟨rfl, grown_same hgX4 hgT⟩
end Go.Proofs.YtohdifimfhdhoaaDoor
