/- Rings: a height's seed; the document's own keys of all heights and its identity. -/
import Derived.Test.YtohdifimfhdhoaaDoorRingN
import Derived.Test.YtohdifimfhdhoaaDoorKJ
namespace Go.Proofs.YtohdifimfhdhoaaDoor
open Go.RowKit

theorem seedR_len (s : List UInt8) (h : Nat) : (seedR s h).length = 32 := tagL_len _ _
theorem keyL_len' (s : List UInt8) : (keyL s).length = 32 := tagL_len _ _
theorem identR_len (s : List UInt8) : (identR s).length = 32 := rootL_len _
theorem keysR_len (s : List UInt8) : (keysR s).length = 16 := by rw [keysR, List.length_map, List.length_range]

/-- A part that lies in a hash variable of its own. -/
def PartH (w : World) (p : Part) : Prop := ∃ b C fr, p.1 = some ⟨b, 0, none⟩ ∧ w.heap[b]? = some (.cells C 23 fr) ∧ C.toList.take p.2.1.length = p.2.1.map bv
theorem PartH.rd {w : World} {p : Part} (h : PartH w p) : RdB w p.1 p.2.1 := by
  obtain ⟨b, C, fr, e, hb, hC⟩ := h
  rw [e]
  refine .inr ⟨_, rfl, fun j u hu => ?_⟩
  have e1 : (⟨b, 0, none⟩ : Addr).add j = ⟨b, j, none⟩ := by unfold Addr.add; split <;> simp_all
  rw [e1, cell_of_row w b j _ _ fr hb]
  rw [← hC] at hu
  rw [List.getElem?_take] at hu
  split at hu
  · simpa using hu
  · cases hu
theorem PartH.kept {w w' : World} {p : Part} (h : PartH w p) (hg : w.grownBy w' none) : PartH w' p := by
  obtain ⟨b, C, fr, e, hb, hC⟩ := h
  exact ⟨b, C, fr, e, keep_of hb hg, hC⟩
/-- Kept where a row of lists grows. -/
theorem PartH.keep {w w' : World} {p : Part} {v : Value} {xs : List Value} (h : PartH w p) (ho : OwnV 30 w v xs) (hg : w.grownBy w' v.ownBlock) : PartH w' p := by
  obtain ⟨b, C, fr, e, hb, hC⟩ := h
  refine ⟨b, C, fr, e, other_block hb hg fun e2 => ?_, hC⟩
  obtain ⟨cs, fr', h2⟩ := ho.block b e2.symm
  rw [hb] at h2
  cases h2
theorem partH_new {w : World} {b : Nat} {X : List UInt8} {fr : Nat × Nat} (h : w.heap[b]? = some (.cells (X.map bv).toArray 23 fr)) : PartH w (some ⟨b, 0, none⟩, X, 32) :=
  ⟨b, _, fr, rfl, h, by show List.take X.length _ = _; rw [List.take_of_length_le (by rw [List.length_map]; exact Nat.le_refl _)]⟩

set_option maxRecDepth 100000 in
theorem Seed_any (s : List UInt8) (h32 : s.length = 32) (i : Nat) (hi : i < 256) (w : World) (hk : Laid2 w) :
    Calls Tryd.prog 15 #[.agg (s.map bv).toArray, .int .i64 (i : Int)] w fun e w' => e = .returned (.agg ((seedR s i).map bv).toArray) ∧ w.grownBy w' none := by
  obtain ⟨p1, hp1⟩ : ∃ p1 : Part, p1 = (some ⟨w.heap.size, 0, none⟩, s, 32) := ⟨_, rfl⟩
  obtain ⟨p2, hp2⟩ : ∃ p2 : Part, p2 = (some ⟨w.heap.size + 1 + 1, 0, none⟩, [UInt8.ofNat i], 1) := ⟨_, rfl⟩
  have htag := fun A w' (h1 : Laid2 w') (h3 : RdP w' A [p1, p2]) => Tagged_any 114 A [p1, p2] 2 w' h1.1 h1.2 h3 (by rw [hp1, hp2]; simp [catP]; omega) (by simp)
  obtain ⟨X, hX⟩ : ∃ X, X = tagL 114 (catP [p1, p2]) := ⟨_, rfl⟩
  rw [← hX] at htag
  have HX : Hid (X = seedR s i) := by show _ = _; rw [hX, hp1, hp2]; simp [catP, seedR]
  have hXl : Hid (X.length = 32) := by rw [hX]; exact tagL_len _ _
  have e1 : Hid (pv p1 = .slice (some ⟨w.heap.size, 0, none⟩) 32 32) := by show _ = _; rw [hp1, pv, h32]
  have e2 : Hid (pv p2 = .slice (some ⟨w.heap.size + 1 + 1, 0, none⟩) 1 1) := by show _ = _; rw [hp2]; rfl
  have w1 : IntKind.u8.wrap (i : Int) = ((UInt8.ofNat i).toNat : Int) := by rw [ofNat_u8 hi]; exact IntWalk.u8_in _ ⟨by omega, by omega⟩
  have hrd : ∀ w' A (C1 C2 : Array Value), w'.heap[w.heap.size]? = some (.cells C1 23 (0, 0)) → C1 = (s.map bv).toArray → w'.heap[w.heap.size + 1 + 1]? = some (.cells C2 5 (0, 0)) → C2 = ([UInt8.ofNat i].map bv).toArray → RdAt w' A [pv p1, pv p2] → RdP w' A [p1, p2] := fun w' A C1 C2 h1 e1 h2 e2 h3 => ⟨h3, fun q hq => by
    subst e1 e2
    simp only [List.mem_cons, List.not_mem_nil, or_false] at hq
    rcases hq with rfl | rfl
    · rw [hp1]; exact rd_row h1
    · rw [hp2]; exact rd_row h2⟩
  clear hX hp1 hp2
  change ∀ A w', Laid2 w' → RdP w' A _ → Calls Tryd.prog 31 #[.int .u8 114, .slice A 2 2] w' _ at htag
  go_enter Tryd.func15, Tryd.ntmps15
  go_wp2_with (first
    | (go_at_call 31; refine (htag _ _ (hk.kept (by first | exact grown_refl _ _ | exact grown_alloc (grown_refl _ _) _ | exact grown_alloc (grown_alloc (grown_refl _ _) _) _ | exact grown_alloc (grown_alloc (grown_alloc (grown_refl _ _) _) _) _ | exact grown_alloc (grown_alloc (grown_alloc (grown_alloc (grown_refl _ _) _) _) _) _)) (hrd _ _ _ _ (alloc_old (alloc_old (alloc_old (alloc_at rfl)))) rfl (alloc_old (alloc_at (by simp))) rfl (by rw [e1.out, e2.out]; exact rd_row (cs := [_, _]) (alloc_at (by simp))))).mono ?_; rintro e w6 ⟨rfl, hg6⟩)
    | (refine wpList_store_row rfl 23 _ _ rfl (w.heap.size + 1) (X.map bv).toArray rfl rfl 23 _ (keep_of (alloc_old (alloc_old (alloc_at (by simp)))) hg6) (hashV_size X hXl.out) (by rw [show (X.map bv).toArray.size = 32 from by rw [List.size_toArray, List.length_map, hXl.out]]; rfl) (bv_all' _) ?_))
  refine bodyPost_ret (results_cell_row rfl _ _ (w.heap.size + 1) 23 (X.map bv).toArray (0, 0) _ rfl (setRow_heap _ _ _ _ _ _ (keep_of (alloc_old (alloc_old (alloc_at (by simp)))) hg6)) Tryd.underlying23 rfl (hashV_size X hXl.out)) rfl ?_
  exact ⟨by rw [HX.out], grown_setRow (grown_same (grown_alloc (grown_alloc (grown_alloc (grown_alloc (grown_refl _ _) _) _) _) _) hg6) (.inr (by omega)) _⟩

set_option maxRecDepth 100000 in
theorem RseedOf_any (s : List UInt8) (h32 : s.length = 32) (i : Nat) (hi : i < 256) (w : World) :
    Calls Tryd.prog 45 #[.agg (s.map bv).toArray, .int .i64 (i : Int)] w fun e w' => e = .returned (.agg ((seedR s i).map bv).toArray) ∧ w.grownBy w' none := by
  obtain ⟨p1, hp1⟩ : ∃ p1 : Part, p1 = (some ⟨w.heap.size, 0, none⟩, s, 32) := ⟨_, rfl⟩
  obtain ⟨p2, hp2⟩ : ∃ p2 : Part, p2 = (some ⟨w.heap.size + 1 + 1, 0, none⟩, [UInt8.ofNat i], 1) := ⟨_, rfl⟩
  have htag := fun A w' (h3 : RdP w' A [p1, p2]) => RTagged_any 114 A [p1, p2] 2 w' h3 (by rw [hp1, hp2]; simp [catP]; omega) (by simp)
  obtain ⟨X, hX⟩ : ∃ X, X = tagL 114 (catP [p1, p2]) := ⟨_, rfl⟩
  rw [← hX] at htag
  have HX : Hid (X = seedR s i) := by show _ = _; rw [hX, hp1, hp2]; simp [catP, seedR]
  have hXl : Hid (X.length = 32) := by rw [hX]; exact tagL_len _ _
  have e1 : Hid (pv p1 = .slice (some ⟨w.heap.size, 0, none⟩) 32 32) := by show _ = _; rw [hp1, pv, h32]
  have e2 : Hid (pv p2 = .slice (some ⟨w.heap.size + 1 + 1, 0, none⟩) 1 1) := by show _ = _; rw [hp2]; rfl
  have w1 : IntKind.u8.wrap (i : Int) = ((UInt8.ofNat i).toNat : Int) := by rw [ofNat_u8 hi]; exact IntWalk.u8_in _ ⟨by omega, by omega⟩
  have hrd : ∀ w' A (C1 C2 : Array Value), w'.heap[w.heap.size]? = some (.cells C1 23 (0, 0)) → C1 = (s.map bv).toArray → w'.heap[w.heap.size + 1 + 1]? = some (.cells C2 5 (0, 0)) → C2 = ([UInt8.ofNat i].map bv).toArray → RdAt w' A [pv p1, pv p2] → RdP w' A [p1, p2] := fun w' A C1 C2 h1 e1 h2 e2 h3 => ⟨h3, fun q hq => by
    subst e1 e2
    simp only [List.mem_cons, List.not_mem_nil, or_false] at hq
    rcases hq with rfl | rfl
    · rw [hp1]; exact rd_row h1
    · rw [hp2]; exact rd_row h2⟩
  clear hX hp1 hp2
  change ∀ A w', RdP w' A _ → Calls Tryd.prog 16 #[.int .u8 114, .slice A 2 2] w' _ at htag
  go_enter Tryd.func45, Tryd.ntmps45
  go_wp2_with (first
    | (go_at_call 16; refine (htag _ _ (hrd _ _ _ _ (alloc_old (alloc_old (alloc_old (alloc_at rfl)))) rfl (alloc_old (alloc_at (by simp))) rfl (by rw [e1.out, e2.out]; exact rd_row (cs := [_, _]) (alloc_at (by simp))))).mono ?_; rintro e w6 ⟨rfl, hg6⟩)
    | (refine wpList_store_row rfl 23 _ _ rfl (w.heap.size + 1) (X.map bv).toArray rfl rfl 23 _ (keep_of (alloc_old (alloc_old (alloc_at (by simp)))) hg6) (hashV_size X hXl.out) (by rw [show (X.map bv).toArray.size = 32 from by rw [List.size_toArray, List.length_map, hXl.out]]; rfl) (bv_all' _) ?_))
  refine bodyPost_ret (results_cell_row rfl _ _ (w.heap.size + 1) 23 (X.map bv).toArray (0, 0) _ rfl (setRow_heap _ _ _ _ _ _ (keep_of (alloc_old (alloc_old (alloc_at (by simp)))) hg6)) Tryd.underlying23 rfl (hashV_size X hXl.out)) rfl ?_
  exact ⟨by rw [HX.out], grown_setRow (grown_same (grown_alloc (grown_alloc (grown_alloc (grown_alloc (grown_refl _ _) _) _) _) _) hg6) (.inr (by omega)) _⟩

theorem leaf_le {ps : List Part} {s : List UInt8} (h : leavesOf ps = keysR s) : ∀ p ∈ ps, p.2.1.length ≤ 1000 := fun p hp => by
  have h1 : p.2.1 ∈ keysR s := by rw [← h]; exact List.mem_map.2 ⟨p, hp, rfl⟩
  rw [keysR] at h1
  obtain ⟨i, _, e⟩ := List.mem_map.1 h1
  rw [← e, keyL_len']
  omega
theorem keys_next (s : List UInt8) (k : Nat) (ps : List Part) (p : Part) (h : leavesOf ps = (List.range k).map fun i => keyL (seedR s (i + 1))) (hp : p.2.1 = keyL (seedR s (k + 1))) : leavesOf (ps ++ [p]) = (List.range (k + 1)).map fun i => keyL (seedR s (i + 1)) := by
  unfold leavesOf at h ⊢
  rw [List.map_append, h, List.range_succ, List.map_append, List.map_singleton, List.map_singleton, hp]

set_option maxRecDepth 100000 in
set_option maxHeartbeats 2000000 in
theorem RKeys_any (s : List UInt8) (h32 : s.length = 32) (w : World) :
    Calls Tryd.prog 29 #[.agg (s.map bv).toArray] w fun e w' => ∃ (A : Option Addr) (ps : List Part) (c : Nat), e = .returned (.slice A 16 c) ∧ ps.length = 16 ∧ 16 ≤ c ∧ RdP w' A ps ∧ leavesOf ps = keysR s ∧ w.grownBy w' none := by
  have hS : Hid (s.length = 32) := h32
  clear h32
  go_enter Tryd.func29, Tryd.ntmps29
  go_wp2
  generalize hW : World.alloc w _ = W
  have hb : W.heap[w.heap.size]? = some (.cells (s.map bv).toArray 23 (0, 0)) := by rw [← hW]; exact alloc_at rfl
  have hgW : w.grownBy W none := by rw [← hW]; exact grown_alloc (grown_refl _ _) _
  replace hW := Lib.hid hW
  go_loopw [3, 4] (fun x i wz => ∃ (k : Nat) (ps : List Part), k ≤ 16 ∧ i = .int .i64 ((k + 1 : Nat) : Int) ∧ OwnV 30 wz x (ps.map pv) ∧ Hid (leavesOf ps = (List.range k).map fun i => keyL (seedR s (i + 1))) ∧ (∀ p ∈ ps, PartH wz p) ∧ Grew W wz (.slice none 0 0) x) (fun _ i _ => 20 - (intOf i).toNat)
  case atStart => exact ⟨0, [], by omega, rfl, OwnV.nil _, rfl, by simp, Grew.refl _ _⟩
  case round =>
    obtain ⟨k, ps, hkl, rfl, ho, hps, hpb, hgr⟩ := hrel
    have hgn := hgr.nil
    have hpk : Hid (ps.length = k) := by
      have := congrArg List.length hps.out
      rwa [leavesOf_len, List.length_map, List.length_range] at this
    have hbr := keep_of hb hgn
    by_cases hk : k < 16
    · have hk' : ((k + 1 : Nat) : Int) ≤ 16 := by omega
      have hsd := fun w' => RseedOf_any s hS.out (k + 1) (by omega) w'
      obtain ⟨Y, hY⟩ : ∃ Y, Y = seedR s (k + 1) := ⟨_, rfl⟩
      rw [← hY] at hsd
      have hky := fun w' => RKey_any Y (by rw [hY]; exact seedR_len _ _) w'
      obtain ⟨X, hX⟩ : ∃ X, X = keyL Y := ⟨_, rfl⟩
      have hXl : Hid (X.length = 32) := by rw [hX]; exact keyL_len' _
      have HN : Hid (∀ p : Part, p.2.1 = X → leavesOf (ps ++ [p]) = (List.range (k + 1)).map fun i => keyL (seedR s (i + 1))) := fun p hp => keys_next s k ps p hps.out (by rw [hp, hX, hY])
      rw [← hX] at hky
      clear hX hY hps
      go_wp2_with (first
        | (refine wpList_load_row rfl 23 _ rfl w.heap.size rfl _ (s.map bv).toArray (0, 0) _ hbr Tryd.underlying23 rfl (hashV_size s hS.out) ?_)
        | (go_at_call 45; refine (hsd _).mono ?_; rintro e w5 ⟨rfl, hg5⟩)
        | (go_at_call 47; refine (hky _).mono ?_; rintro e w6 ⟨rfl, hg6⟩)
        | (refine wpList_store_row rfl 23 _ _ rfl w6.heap.size (X.map bv).toArray rfl rfl 23 _ (alloc_at rfl) (hashV_size X hXl.out) (by rw [show (X.map bv).toArray.size = 32 from by rw [List.size_toArray, List.length_map, hXl.out]]; rfl) (bv_all' _) ?_; generalize hV : World.setRow _ w6.heap.size _ = V; have hbv : V.heap[w6.heap.size]? = some (.cells (X.map bv).toArray 23 (0, 0)) := (by rw [← hV]; exact setRow_heap _ _ _ _ _ _ (alloc_at rfl)); have hgV : wr.grownBy V none := (by rw [← hV]; exact grown_setRow (grown_alloc (grown_same hg5 hg6) _) (.inr (grown_same hg5 hg6).size) _); replace hV := Lib.hid hV)
        | (at_builtin; refine wpList_appV _ rfl _ _ 44 rfl Tryd.underlying44 info_listT rfl rfl ((ho.kept hgV).alloc _) (news := [pv (hp w6.heap.size X)]) rfl rfl (by rw [← pv_hp hXl.out]; exact rd_row (cs := [_]) (alloc_at rfl)) (by intro u hu; rw [List.mem_singleton] at hu; subst hu; rfl) (by rw [List.length_map, hpk.out]; simp; omega) (by rw [List.length_map, hpk.out]; unfold maxLen; simp; omega) ?_; intro v7 w7 ho7 hgr7))
      go_roundw
      case rel =>
        refine ⟨k + 1, ps ++ [hp w6.heap.size X], by omega, by go_num, by rw [List.map_append]; exact ho7, HN.out _ rfl, ?_, hgr.trans (Grew.pre (grown_alloc hgV _) hgr7)⟩
        intro q hq
        rcases List.mem_append.1 hq with hq | hq
        · exact ((hpb q hq).kept (grown_alloc hgV _)).keep ((ho.kept hgV).alloc _) hgr7.1
        · rw [List.mem_singleton] at hq
          subst hq
          exact ((partH_new hbv).kept (grown_alloc (grown_refl _ _) _)).keep ((ho.kept hgV).alloc _) hgr7.1
      case measure => simp [intOf]; omega
    · have hk' : ¬ ((k + 1 : Nat) : Int) ≤ 16 := by omega
      have hkk : k = 16 := by omega
      obtain ⟨A, c, rfl, hc, hcm, hrA⟩ := ho.slice
      rw [List.length_map, hpk.out, hkk] at hc ⊢
      go_wp2_with fail
      go_ret
      exact ⟨A, ps, c, rfl, hpk.out.trans hkk, hc, ⟨hrA, fun p hp => (hpb p hp).rd⟩, hps.out.trans (by rw [hkk]; rfl), grown_same hgW hgn⟩

set_option maxRecDepth 100000 in
theorem RIdent_any (s : List UInt8) (h32 : s.length = 32) (w : World) :
    Calls Tryd.prog 14 #[.agg (s.map bv).toArray] w fun e w' => e = .returned (.agg ((identR s).map bv).toArray) ∧ w.grownBy w' none := by
  have hks := fun w' => RKeys_any s h32 w'
  have hro := fun A (ps : List Part) c w' (h1 : ps.length = 16) (h2 : 16 ≤ c) (h3 : leavesOf ps = keysR s) (hr : RdP w' A ps) => RRoot_any 16 A ps c w' h1 h2 (by omega) (leaf_le h3) hr
  obtain ⟨X, hX⟩ : ∃ X, X = identR s := ⟨_, rfl⟩
  have HX := Lib.hid hX
  have hXl : Hid (X.length = 32) := by rw [hX]; exact identR_len s
  have hS : Hid (s.length = 32) := h32
  rw [← hX]
  clear hX h32
  go_enter Tryd.func14, Tryd.ntmps14
  go_wp2_with (first
    | (refine wpList_load_row rfl 23 _ rfl w.heap.size rfl _ (s.map bv).toArray (0, 0) _ (alloc_old (alloc_at rfl)) Tryd.underlying23 rfl (hashV_size s hS.out) ?_)
    | (go_at_call 29; refine (hks _).mono ?_; rintro e w5 ⟨A5, ps, c5, rfl, hn5, hc5, hr5, hl5, hg5⟩; replace hl5 := Lib.hid hl5; replace hn5 := Lib.hid hn5)
    | (go_at_call 30; refine (hro _ _ _ _ hn5.out hc5 hl5.out hr5).mono ?_; rintro e w6 ⟨rfl, hg6⟩; rw [hl5.out, ← identR, ← HX.out])
    | (refine wpList_store_row rfl 23 _ _ rfl (w.heap.size + 1) (X.map bv).toArray rfl rfl 23 _ (keep_of (keep_of (alloc_at (by simp)) hg5) hg6) (hashV_size X hXl.out) (by rw [show (X.map bv).toArray.size = 32 from by rw [List.size_toArray, List.length_map, hXl.out]]; rfl) (bv_all' _) ?_))
  refine bodyPost_ret (results_cell_row rfl _ _ (w.heap.size + 1) 23 (X.map bv).toArray (0, 0) _ rfl (setRow_heap _ _ _ _ _ _ (keep_of (keep_of (alloc_at (by simp)) hg5) hg6)) Tryd.underlying23 rfl (hashV_size X hXl.out)) rfl ?_
  exact ⟨rfl, grown_setRow (grown_same (grown_same (grown_alloc (grown_alloc (grown_refl _ _) _) _) hg5) hg6) (.inr (by omega)) _⟩
end Go.Proofs.YtohdifimfhdhoaaDoor
