/- The law on sums of parts: its contract. -/
import Derived.Test.YtcooadmepkojfaaDoorOpsG
namespace Go.Proofs.YtcooadmepkojfaaDoor
open Go.RowKit

/-- A part that lies apart from two rows that grow. -/
def PartOk (w : World) (xa xo : Value) (p : Part) : Prop := RdB w p.1 p.2.1 ∧ ∀ ad, p.1 = some ad → ad.block < w.heap.size ∧ some ad.block ≠ xa.ownBlock ∧ some ad.block ≠ xo.ownBlock
theorem PartOk.step {w w' : World} {xa xo xa' xo' : Value} {p : Part} {row : Option Nat} (h : PartOk w xa xo p) (hg : w.grownBy w' row) (hrow : row = none ∨ row = xa.ownBlock ∨ row = xo.ownBlock)
    (ha : xa'.ownBlock = xa.ownBlock ∨ ∃ g, xa'.ownBlock = some g ∧ w.heap.size ≤ g) (ho : xo'.ownBlock = xo.ownBlock ∨ ∃ g, xo'.ownBlock = some g ∧ w.heap.size ≤ g) : PartOk w' xa' xo' p := by
  refine ⟨h.1.keep hg fun ad e => ?_, fun ad e => ?_⟩
  · obtain ⟨_, h1, h2⟩ := h.2 ad e
    rcases hrow with rfl | rfl | rfl
    · simp
    · exact h1
    · exact h2
  · obtain ⟨h0, h1, h2⟩ := h.2 ad e
    refine ⟨Nat.lt_of_lt_of_le h0 hg.size, ?_, ?_⟩
    · rcases ha with e1 | ⟨g, e1, hl⟩
      · rw [e1]; exact h1
      · rw [e1]; intro e2; injection e2 with e2; omega
    · rcases ho with e1 | ⟨g, e1, hl⟩
      · rw [e1]; exact h2
      · rw [e1]; intro e2; injection e2 with e2; omega
theorem info_list : (Tryd.prog.info? 25).map (fun i => (i.zero, i.size, i.bytes)) = some (some (.slice none 0 0), 1, 24) := by kernel_rfl
theorem catP_last (ps : List Part) (p : Part) : catP (ps ++ [p]) = catP ps ++ p.2.1 := by simp [catP]
theorem catP_max {ps : List Part} {m : Nat} (h : ∀ p ∈ ps, p.2.1.length ≤ m) : (catP ps).length ≤ ps.length * m := by
  induction ps with
  | nil => simp [catP]
  | cons p r ih =>
    have h1 := h p (by simp)
    have h2 := ih fun q hq => h q (by simp [hq])
    have e : catP (p :: r) = p.2.1 ++ catP r := rfl
    rw [e, List.length_append, List.length_cons, Nat.succ_mul]
    omega

def gpS (t : Nat) : Bool := (decide (43 ≤ t) && decide (t ≤ 85)) || t == 4
def gpDie (k : Nat) : Nat := if k = 9 then 11 else if k = 34 then 36 else 99
def gpOwn (k : Nat) : Bool := k == 3 || k == 9 || k == 11 || k == 19 || k == 27 || k == 34 || k == 36
def gpF (t : UInt8) (C : List UInt8) (A5 : Option Addr) (c5 : Nat) : Nat → Value → World → Prop
  | 0 => fun v _ => v = (.agg ((tagL t C).map bv).toArray)
  | 1 => fun v _ => v = (.int .u8 (t.toNat : Int))
  | 2 => fun v _ => v = (.slice A5 C.length c5)
  | 3 => fun v w => ∃ A' c', v = .slice A' 1 c' ∧ RdAt w A' ([pv ((A5, C, c5) : Part)])
  | 4 => fun v _ => v = (.agg ((tagL t (C)).map bv).toArray)
  | 5 => fun v _ => v = .bool true
  | 6 => fun v _ => v = .bool true
  | 7 => fun v _ => v = (.agg ((tagL t C).map bv).toArray)
  | 8 => fun v _ => v = (.int .u8 (t.toNat : Int))
  | 9 => fun v w => OwnB w v ([t])
  | 10 => fun v _ => v = (.slice A5 C.length c5)
  | 11 => fun v w => OwnB w v (([t]) ++ (C))
  | 12 => fun v _ => v = (.agg ((sumL ([t] ++ C)).map bv).toArray)
  | 13 => fun v _ => v = .bool true
  | 14 => fun v _ => v = .bool true
  | 15 => fun v _ => v = .bool true
  | 16 => fun v _ => v = (.agg ((tagL t C).map bv).toArray)
  | 17 => fun v _ => v = (.int .u8 (t.toNat : Int))
  | 18 => fun v _ => v = (.slice A5 C.length c5)
  | 19 => fun v w => ∃ A' c', v = .slice A' 1 c' ∧ RdAt w A' ([pv ((A5, C, c5) : Part)])
  | 20 => fun v _ => v = (.agg ((tagL t (C)).map bv).toArray)
  | 21 => fun v _ => v = .bool true
  | 22 => fun v _ => v = .bool true
  | 23 => fun v _ => v = .bool true
  | 24 => fun v _ => v = (.int .u8 (t.toNat : Int))
  | 25 => fun v _ => v = (.agg ((tagL t ([])).map bv).toArray)
  | 26 => fun v _ => v = (.int .u8 (t.toNat : Int))
  | 27 => fun v w => OwnB w v ([t])
  | 28 => fun v _ => v = (.agg ((sumL ([t])).map bv).toArray)
  | 29 => fun v _ => v = .bool true
  | 30 => fun v _ => v = .bool true
  | 31 => fun v _ => v = .bool true
  | 32 => fun v _ => v = (.slice A5 C.length c5)
  | 33 => fun v _ => v = (.agg ((sumL (C)).map bv).toArray)
  | 34 => fun v w => OwnB w v ([])
  | 35 => fun v _ => v = (.slice A5 C.length c5)
  | 36 => fun v w => OwnB w v (([]) ++ (C))
  | 37 => fun v _ => v = (.agg ((sumL ([] ++ C)).map bv).toArray)
  | 38 => fun v _ => v = .bool true
  | 39 => fun v _ => v = .bool true
  | 40 => fun v _ => v = .bool true
  | 41 => fun v _ => v = .bool true
  | 42 => fun v _ => v = .bool true
  | 43 => fun v _ => v = .bool true
  | _ => fun _ _ => True
theorem gpF_lasts (t : UInt8) (C : List UInt8) (A5 : Option Addr) (c5 : Nat) : ∀ k, Lasts (gpF t C A5 c5 k)
  | 0 => lasts_val _
  | 1 => lasts_val _
  | 2 => lasts_val _
  | 3 => lasts_rd _ _
  | 4 => lasts_val _
  | 5 => lasts_val _
  | 6 => lasts_val _
  | 7 => lasts_val _
  | 8 => lasts_val _
  | 9 => lasts_own _
  | 10 => lasts_val _
  | 11 => lasts_own _
  | 12 => lasts_val _
  | 13 => lasts_val _
  | 14 => lasts_val _
  | 15 => lasts_val _
  | 16 => lasts_val _
  | 17 => lasts_val _
  | 18 => lasts_val _
  | 19 => lasts_rd _ _
  | 20 => lasts_val _
  | 21 => lasts_val _
  | 22 => lasts_val _
  | 23 => lasts_val _
  | 24 => lasts_val _
  | 25 => lasts_val _
  | 26 => lasts_val _
  | 27 => lasts_own _
  | 28 => lasts_val _
  | 29 => lasts_val _
  | 30 => lasts_val _
  | 31 => lasts_val _
  | 32 => lasts_val _
  | 33 => lasts_val _
  | 34 => lasts_own _
  | 35 => lasts_val _
  | 36 => lasts_own _
  | 37 => lasts_val _
  | 38 => lasts_val _
  | 39 => lasts_val _
  | 40 => lasts_val _
  | 41 => lasts_val _
  | 42 => lasts_val _
  | 43 => lasts_val _
  | _ + 44 => fun _ _ _ _ _ _ _ => trivial

set_option maxRecDepth 100000 in
set_option maxHeartbeats 4000000 in
theorem ShaParts_any (A0 : Option Addr) (ps0 : List Part) (c0 : Nat) (t : UInt8) (W0 : World) (hk : LaidK W0) (hs : LaidS W0) (hr0 : RdP W0 A0 ps0) (hc0 : ps0.length ≤ c0) (hm0 : c0 ≤ maxLen) (hb0 : ∀ q ∈ ps0, q.2.1.length ≤ q.2.2 ∧ q.2.2 ≤ maxLen) :
    Calls Tryd.prog 6 #[.slice A0 ps0.length c0, .int .u8 (t.toNat : Int)] W0 fun e w' => e = .returned (.bool true) ∧ W0.grownBy w' none := by
  have hn0 : ps0.length ≤ 9223372036854775807 := Nat.le_trans hc0 hm0
  go_enter Tryd.func6, Tryd.ntmps6
  go_wp2
  go_loopw [5, 6, 7] (fun xa xo i wr => ∃ (k : Nat) (ps : List Part), k ≤ 6 ∧ i = .int .i64 k ∧ ps.length = k ∧ (∀ p ∈ ps, p.2.1.length ≤ 50) ∧ OwnV 25 wr xo (ps.map pv) ∧ OwnB wr xa (catP ps) ∧ (∀ p ∈ ps, PartOk wr xa xo p) ∧ Grew W0 wr (.slice none 0 0) xo ∧ Grew W0 wr (.slice none 0 0) xa) (fun _ _ i _ => 6 - (intOf i).toNat)
  case atStart => exact ⟨0, [], by omega, rfl, rfl, by simp, OwnV.nil _, OwnB.nil _, by simp, Grew.refl _ _, Grew.refl _ _⟩
  case round =>
    obtain ⟨k, ps, hk6, rfl, hpl, hp50, hoo, hoa, hpo, hgo, hga⟩ := hrel
    have hgn := hgo.nil
    have HPL := Lib.hid hpl
    clear hpl
    by_cases hlt : k < ps0.length ∧ k < 6
    · obtain ⟨hlt1, hlt2⟩ := hlt
      obtain ⟨ad, rfl, hcell, hrd⟩ := (hr0.kept hgn).get hlt1
      obtain ⟨q0, hq0⟩ : ∃ q, q = ps0[k] := ⟨_, rfl⟩
      rw [← hq0] at hcell hrd
      have hq1 : q0.2.1.length ≤ q0.2.2 ∧ q0.2.2 ≤ maxLen := by rw [hq0]; exact hb0 _ (List.getElem_mem hlt1)
      clear hq0
      obtain ⟨B, L0, cB⟩ := q0
      simp only at hcell hrd hq1
      obtain ⟨hq1, hq2⟩ := hq1
      have hq2' : cB ≤ 9223372036854775807 := hq2
      obtain ⟨m, hmin0, hmn, hm50⟩ := min_some L0.length 50
      have hmin : (if (50 : Int) < (L0.length : Int) then (50 : Int) else (L0.length : Int)) = (m : Int) := hmin0
      clear hmin0
      obtain ⟨T, hT⟩ : ∃ T, T = L0.take m := ⟨_, rfl⟩
      have hTl : Hid (T.length = m) := by show _ = _; rw [hT, List.length_take]; omega
      have hrT : RdB wr B T := by rw [hT]; exact rd_takeB hrd m
      clear hT hrd
      have hn := ownB_new wr #[] [] 0 rfl rfl (Nat.zero_le _)
      have hcell2 : (wr.alloc (.cells #[] 5)).cell? (ad.add k) = some (.slice B L0.length cB) := (grown_alloc (grown_refl wr none) _).cell hcell (by simp)
      have k2 : m ≤ cB := by omega
      have k1 : (k : Int) < (ps0.length : Int) := by omega
      go_wp2_with fail
      go_region_law (first | (refine step_appB (v := .slice (some ⟨wr.heap.size, 0, none⟩) 0 0) rfl _ _ rfl rfl (hn.kept (grown_drew (grown_refl _ _))) (news := T) rfl hTl.out.symm (hrT.kept (grown_drew (grown_alloc (grown_refl _ _) _))) (by rw [hTl.out]; simp; omega) ?_; intro v1 w1 ho1 hg1))
      all_goals
        have hT1 : OwnB w1 v1 T := ho1
        have hG1 : Grew wr w1 (.slice none 0 0) v1 := by
          have h := Grew.pre (grown_drew (grown_alloc (grown_refl wr none) _)) hg1
          refine ⟨grown_trans (grown_refl wr _) h.1 (.inr fun g e => by simp [Value.ownBlock] at e; omega), .inr ?_⟩
          rcases h.2 with e | ⟨g, e, hl⟩
          · exact ⟨_, e, Nat.le_refl _⟩
          · exact ⟨g, e, hl⟩
        have hg1n := hG1.nil
        have hv1new := hG1.new
        have hv1lt := hT1.lt
        obtain ⟨A8, c8, rfl, hc8, hm8, hr8⟩ := hT1.slice
        have hoo1 := hoo.kept hg1n
        have hoa1 := hoa.kept hg1n
        have hoolt := hoo.lt
        have hoalt := hoa.lt
        have hp1 : PartOk w1 u5 u6 (A8, T, c8) := by
          refine ⟨hr8, fun ad' e => ?_⟩
          have e' : A8 = some ad' := e
          subst e'
          have h1 := hv1new ad'.block rfl
          refine ⟨hv1lt _ rfl, fun e2 => ?_, fun e2 => ?_⟩
          · have := hoalt _ e2.symm; omega
          · have := hoolt _ e2.symm; omega
        have hpo1 : ∀ p ∈ ps, PartOk w1 u5 u6 p := fun p hp => (hpo p hp).step hg1n (.inl rfl) (.inl rfl) (.inl rfl)
        have hcm := catP_max hp50
        have hlen50 : T.length ≤ 50 := by rw [hTl.out]; exact hm50
        go_wp2_with (first
          | (at_builtin; refine wpList_appV (v := u6) _ rfl _ _ 34 rfl Tryd.underlying34 info_list rfl rfl (hoo1.alloc _) (news := [pv (A8, T, c8)]) rfl rfl (rd_row (cs := [pv (A8, T, c8)]) (heap_alloc_new _ _)) (fun u hu => by rw [List.mem_singleton] at hu; subst hu; rfl) (by rw [List.length_map, HPL.out, List.length_singleton]; omega) (by rw [List.length_map, HPL.out, List.length_singleton]; unfold maxLen; omega) ?_; intro v2 w2 ho2 hg2; have hgA := Grew.pre (grown_alloc (grown_refl w1 none) _) hg2; have hap := (hoa1.toV.apart hoo1 (by decide)); have hoa2 : OwnB w2 u5 (catP ps) := hoa1.keep hgA.1 hap; have hr82 : RdB w2 A8 T := (hp1.step (xa' := u5) (xo' := v2) hgA.1 (.inr (.inr rfl)) (.inl rfl) hgA.2).1)
          | (at_builtin; refine wpList_appB (v := u5) _ rfl _ _ rfl rfl hoa2 (news := T) rfl rfl hr82 (by rw [HPL.out] at hcm; omega) ?_; intro v3 w3 ho3 hg3))
        have hgo2 : Grew W0 w2 (.slice none 0 0) v2 := (Grew.post hgo hg1n).trans hgA
        have hga2 : Grew W0 w2 (.slice none 0 0) u5 := (Grew.post hga hg1n).keepNew hgo2.1
        have hga3 := hga2.trans hg3
        have hgo3 : Grew W0 w3 (.slice none 0 0) v2 := hgo2.keepNew hga3.1
        have hoo2 : OwnV 25 w2 v2 ((ps ++ [(A8, T, c8)]).map pv) := by rw [List.map_append]; exact ho2
        have hap2 := hoo2.apart hoa2.toV (by decide)
        have hoo3 := hoo2.keep hg3.1 hap2
        have hoa3 : OwnB w3 v3 (catP (ps ++ [(A8, T, c8)])) := by rw [catP_last]; exact ho3
        have hall : ∀ p ∈ ps ++ [(A8, T, c8)], PartOk w1 u5 u6 p := by
          intro p hp
          rw [List.mem_append, List.mem_singleton] at hp
          rcases hp with hp | rfl
          · exact hpo1 p hp
          · exact hp1
        have hall3 : ∀ p ∈ ps ++ [(A8, T, c8)], PartOk w3 v3 v2 p := fun p hp =>
          ((hall p hp).step (xa' := u5) (xo' := v2) hgA.1 (.inr (.inr rfl)) (.inl rfl) hgA.2).step hg3.1 (.inr (.inl rfl)) hg3.2 (.inl rfl)
        have hp503 : ∀ p ∈ ps ++ [(A8, T, c8)], p.2.1.length ≤ 50 := by
          intro p hp
          rw [List.mem_append, List.mem_singleton] at hp
          rcases hp with hp | rfl
          · exact hp50 p hp
          · exact hlen50
        go_roundw
        case rel => exact ⟨k + 1, ps ++ [(A8, T, c8)], by omega, by go_num, by rw [List.length_append, HPL.out]; rfl, hp503, hoo3, hoa3, hall3, hgo3, hga3⟩
        case measure => simp [intOf]; omega
    · have hcs : (¬ k < ps0.length) ∨ (k < ps0.length ∧ ¬ k < 6) := by omega
      obtain ⟨Ao, co, eo, hco, hmo, hro⟩ := hoo.slice
      rw [List.length_map] at eo
      subst eo
      obtain ⟨A5, c5, rfl, hc5, hm5, hr5⟩ := hoa.slice
      obtain ⟨C, hC⟩ : ∃ C, C = catP ps := ⟨_, rfl⟩
      have hcm := catP_max hp50
      rw [← hC] at hr5 hc5 hcm hoa hga ⊢
      have hCl : C.length ≤ 300 := by rw [HPL.out] at hcm; omega
      have hRP : RdP wr Ao ps := ⟨hro, fun p hp => (hpo p hp).1⟩
      have hk' := hk.kept hgn
      have hs' := hs.kept hgn
      have htag := Tagged_any t Ao ps co wr hk' hs' hRP (by rw [← hC]; omega) (by rw [HPL.out]; omega)
      rw [← hC] at htag
      obtain ⟨X, hX⟩ : ∃ X, X = tagL t C := ⟨_, rfl⟩
      rw [← hX] at htag
      have HX := Lib.hid hX
      have hXl : Hid (X.length = 32) := by rw [hX]; exact sumL_len _
      have HS : Hid ((Tryd.prog.info? 23).map (·.size) = some (X.map bv).toArray.size) := by rw [List.size_toArray, List.length_map, hXl.out]; exact size_hash
      have HC := Lib.hid hC
      have h5lt := hoa.lt
      have HT := Lib.hid htag
      clear hX hC hcm htag hoo hro hgo hga hpo hp50
      rcases hcs with h1 | ⟨h1, h2⟩
      all_goals
        go_wp2_with (first
          | (go_at_call 14; refine HT.out.mono ?_; rintro e w6 ⟨rfl, hg6⟩)
          | (refine wpList_store_row rfl 23 _ _ rfl w6.heap.size (X.map bv).toArray rfl rfl 23 (rowH []) (heap_alloc_new _ _) HS.out (by rw [rowH_size _ (by simp), List.size_toArray, List.length_map, hXl.out]) (bv_all' _) ?_; generalize hw7 : World.setRow _ _ _ = w7; have HW7 := Lib.hid hw7; clear hw7))
        have hg7 : w6.grownBy w7 none := by
          rw [← HW7.out]
          exact grown_setRow (grown_alloc (grown_refl _ _) _) (.inr (Nat.le_refl _)) _
        have hgW : W0.grownBy w7 none := grown_same (grown_same hgn hg6) hg7
        have hX7 : w7.heap[w6.heap.size]? = some (.cells ((tagL t C).map bv).toArray 23 (0, 0)) := by
          rw [← HW7.out, ← HX.out]
          exact setRow_heap _ _ _ _ _ _ (heap_alloc_new _ _)
        have hheap : ∀ {w' : World}, w7.grownBy w' none → w'.heap[w6.heap.size]? = some (.cells ((tagL t C).map bv).toArray 23 (0, 0)) := fun h => keep_of hX7 h
        replace hr5 : RdB w7 A5 C := (hr5.kept hg6).kept hg7
        have hk := hk.kept hgW
        have hs := hs.kept hgW
        have hlt5 : ∀ g, (Value.slice A5 C.length c5).ownBlock = some g → g < w7.heap.size := fun g e => Nat.lt_of_lt_of_le (h5lt g e) (Nat.le_trans hg6.size hg7.size)
        have hin1 : ∀ p ∈ [((A5, C, c5) : Part)], RdB w7 p.1 p.2.1 := by
          intro p hp
          rw [List.mem_singleton] at hp
          subst hp
          exact hr5
        have hnil : RdP w7 none [] := ⟨RdAt.nil, by simp⟩
        clear hX7 HW7
        have hXe := HX.out
        rw [hXe]
        clear hXe
        go_wp2
        refine wp_region_go2 (N := 86) (S := gpS) (die := gpDie) (own := gpOwn) (F := gpF t C A5 c5) (by kernel_rfl) (by kernel_rfl) (Nat.le_of_ble_eq_true (by kernel_rfl)) (gpF_lasts t C A5 c5) ?_ ?_
        · intro i o L' a w K hi ho hg hLi hout hpre houter hitem h1 h2
          have hcases : i = 0 ∨ i = 1 ∨ i = 2 ∨ i = 3 ∨ i = 4 ∨ i = 5 ∨ i = 6 ∨ i = 7 ∨ i = 8 ∨ i = 9 ∨ i = 10 ∨ i = 11 ∨ i = 12 ∨ i = 13 ∨ i = 14 ∨ i = 15 ∨ i = 16 ∨ i = 17 ∨ i = 18 ∨ i = 19 ∨ i = 20 ∨ i = 21 ∨ i = 22 ∨ i = 23 ∨ i = 24 ∨ i = 25 ∨ i = 26 ∨ i = 27 ∨ i = 28 ∨ i = 29 ∨ i = 30 ∨ i = 31 ∨ i = 32 ∨ i = 33 ∨ i = 34 ∨ i = 35 ∨ i = 36 ∨ i = 37 ∨ i = 38 ∨ i = 39 ∨ i = 40 ∨ i = 41 ∨ i = 42 ∨ i = 43 := by
            have : i < 44 := hi
            omega
          rcases hcases with rfl | rfl | rfl | rfl | rfl | rfl | rfl | rfl | rfl | rfl | rfl | rfl | rfl | rfl | rfl | rfl | rfl | rfl | rfl | rfl | rfl | rfl | rfl | rfl | rfl | rfl | rfl | rfl | rfl | rfl | rfl | rfl | rfl | rfl | rfl | rfl | rfl | rfl | rfl | rfl | rfl | rfl | rfl | rfl
          · cases (show some _ = some o from ho)
            exact ⟨rfl, wp_loadH rfl (houter _ rfl) (sumL_len _) (hheap hg) (h1 _ _ (grown_refl _ none) rfl (fun g e => by cases e) (.inl rfl))⟩
          · cases (show some _ = some o from ho)
            exact ⟨rfl, wp_move rfl (h1 _ _ (grown_refl _ none) (houter _ rfl) (lt_val (houter _ rfl) rfl) (Fresh.val (houter _ rfl) rfl))⟩
          · cases (show some _ = some o from ho)
            refine ⟨rfl, wp_move rfl (h1 _ _ (grown_refl _ none) (houter _ rfl) ?_ ?_)⟩
            · rw [houter _ rfl]; exact fun g e => Nat.lt_of_lt_of_le (hlt5 g e) hg.size
            · rw [houter _ rfl]; exact Fresh.old rfl hlt5
          · cases (show some _ = some o from ho)
            exact ⟨rfl, wp_lit1 rfl (hitem 2 (by decide) ⟨hpre 2 rfl, hout _ (by decide)⟩) (lit_p1 ((A5, C, c5) : Part) _) (h1 _ _ (grown_alloc (grown_refl _ _) _) (rd_lit _ [pv ((A5, C, c5) : Part)] 1 _ rfl) (lt_new _ _) Fresh.lit)⟩
          · cases (show some _ = some o from ho)
            obtain ⟨A, c, hx, hr⟩ := hitem 3 (by decide) ⟨hpre 3 rfl, hout _ (by decide)⟩
            exact ⟨rfl, wp_tag (ps := [((A5, C, c5) : Part)]) (l := C) rfl (hitem 1 (by decide) ⟨hpre 1 rfl, hout _ (by decide)⟩) hx ⟨hr, fun p hp => (hin1 p hp).kept hg⟩ rfl (by simp [catP])  (hk.kept hg) (hs.kept hg) (by omega) (Nat.le_of_ble_eq_true rfl) (fun w' hg' => h1 _ _ hg' rfl (fun g e => by cases e) (.inl rfl))⟩
          · cases (show some _ = some o from ho)
            exact ⟨rfl, wp_bin rfl (hitem 0 (by decide) ⟨hpre 0 rfl, hout _ (by decide)⟩) (hitem 4 (by decide) ⟨hpre 4 rfl, hout _ (by decide)⟩) (guard_hash _ _ _ _ _) (eqlH_true (tagL t C) (sumL_len _) _) (h1 _ _ (grown_refl _ none) rfl (fun g e => by cases e) (.inl rfl))⟩
          · cases (show some _ = some o from ho)
            have hx := hitem 5 (by decide) ⟨hpre 5 rfl, hout _ (by decide)⟩
            exact ⟨rfl, wp_move rfl (h1 _ _ (grown_refl _ none) hx (lt_bool hx) (Fresh.bool hx))⟩
          · cases (show some _ = some o from ho)
            exact ⟨wanted_of (j := 6) rfl rfl (hitem 6 (by decide) ⟨hpre 6 rfl, hout _ (by decide)⟩), wp_loadH rfl (houter _ rfl) (sumL_len _) (hheap hg) (h1 _ _ (grown_refl _ none) rfl (fun g e => by cases e) (.inl rfl))⟩
          · cases (show some _ = some o from ho)
            exact ⟨wanted_of (j := 6) rfl rfl (hitem 6 (by decide) ⟨hpre 6 rfl, hout _ (by decide)⟩), wp_move rfl (h1 _ _ (grown_refl _ none) (houter _ rfl) (lt_val (houter _ rfl) rfl) (Fresh.val (houter _ rfl) rfl))⟩
          · cases (show some _ = some o from ho)
            exact ⟨wanted_of (j := 6) rfl rfl (hitem 6 (by decide) ⟨hpre 6 rfl, hout _ (by decide)⟩), wp_lit1 rfl (hitem 8 (by decide) ⟨hpre 8 rfl, hout _ (by decide)⟩) (lit_b1 t _) (h1 _ _ (grown_alloc (grown_refl _ _) _) (ownB_new _ _ [t] 1 rfl rfl (by unfold maxLen; omega)) (lt_new _ _) Fresh.lit)⟩
          · cases (show some _ = some o from ho)
            refine ⟨wanted_of (j := 6) rfl rfl (hitem 6 (by decide) ⟨hpre 6 rfl, hout _ (by decide)⟩), wp_move rfl (h1 _ _ (grown_refl _ none) (houter _ rfl) ?_ ?_)⟩
            · rw [houter _ rfl]; exact fun g e => Nat.lt_of_lt_of_le (hlt5 g e) hg.size
            · rw [houter _ rfl]; exact Fresh.old rfl hlt5
          · cases (show some _ = some o from ho)
            exact ⟨wanted_of (j := 6) rfl rfl (hitem 6 (by decide) ⟨hpre 6 rfl, hout _ (by decide)⟩), wp_appB rfl rfl (hitem 9 (by decide) ⟨hpre 9 rfl, hLi⟩) (hitem 10 (by decide) ⟨hpre 10 rfl, hout _ (by decide)⟩) rfl (hr5.kept hg) (by simp; omega) fun v w' hv hw => h2 9 v w' (by decide) ⟨hpre 9 rfl, hLi⟩ rfl rfl hw.1 hv (fun g e => hv.lt _ e) (Fresh.ofGrew hw)⟩
          · cases (show some _ = some o from ho)
            obtain ⟨A, c, hx, q1, q2, hr⟩ := OwnB.slice (hitem 11 (by decide) ⟨hpre 11 rfl, hout _ (by decide)⟩)
            exact ⟨wanted_of (j := 6) rfl rfl (hitem 6 (by decide) ⟨hpre 6 rfl, hout _ (by decide)⟩), wp_sum rfl hx hr rfl q1 q2 (hk.kept hg) (hs.kept hg) (by simp; omega) (fun w' hg' => h1 _ _ hg' rfl (fun g e => by cases e) (.inl rfl))⟩
          · cases (show some _ = some o from ho)
            exact ⟨wanted_of (j := 6) rfl rfl (hitem 6 (by decide) ⟨hpre 6 rfl, hout _ (by decide)⟩), wp_bin rfl (hitem 7 (by decide) ⟨hpre 7 rfl, hout _ (by decide)⟩) (hitem 12 (by decide) ⟨hpre 12 rfl, hout _ (by decide)⟩) (guard_hash _ _ _ _ _) (eqlH_true (tagL t C) (sumL_len _) _) (h1 _ _ (grown_refl _ none) rfl (fun g e => by cases e) (.inl rfl))⟩
          · cases (show some _ = some o from ho)
            have hc := hitem 6 (by decide) ⟨hpre 6 rfl, hout _ (by decide)⟩
            have hx := hitem 13 (by decide) ⟨hpre 13 rfl, hout _ (by decide)⟩
            exact ⟨rfl, wp_pick rfl hc (h1 _ _ (grown_refl _ none) hx (lt_bool hx) (Fresh.bool hx))⟩
          · cases (show some _ = some o from ho)
            have hx := hitem 14 (by decide) ⟨hpre 14 rfl, hout _ (by decide)⟩
            exact ⟨rfl, wp_move rfl (h1 _ _ (grown_refl _ none) hx (lt_bool hx) (Fresh.bool hx))⟩
          · cases (show some _ = some o from ho)
            exact ⟨wanted_of (j := 15) rfl rfl (hitem 15 (by decide) ⟨hpre 15 rfl, hout _ (by decide)⟩), wp_loadH rfl (houter _ rfl) (sumL_len _) (hheap hg) (h1 _ _ (grown_refl _ none) rfl (fun g e => by cases e) (.inl rfl))⟩
          · cases (show some _ = some o from ho)
            exact ⟨wanted_of (j := 15) rfl rfl (hitem 15 (by decide) ⟨hpre 15 rfl, hout _ (by decide)⟩), wp_move rfl (h1 _ _ (grown_refl _ none) (houter _ rfl) (lt_val (houter _ rfl) rfl) (Fresh.val (houter _ rfl) rfl))⟩
          · cases (show some _ = some o from ho)
            refine ⟨wanted_of (j := 15) rfl rfl (hitem 15 (by decide) ⟨hpre 15 rfl, hout _ (by decide)⟩), wp_move rfl (h1 _ _ (grown_refl _ none) (houter _ rfl) ?_ ?_)⟩
            · rw [houter _ rfl]; exact fun g e => Nat.lt_of_lt_of_le (hlt5 g e) hg.size
            · rw [houter _ rfl]; exact Fresh.old rfl hlt5
          · cases (show some _ = some o from ho)
            exact ⟨wanted_of (j := 15) rfl rfl (hitem 15 (by decide) ⟨hpre 15 rfl, hout _ (by decide)⟩), wp_lit1 rfl (hitem 18 (by decide) ⟨hpre 18 rfl, hout _ (by decide)⟩) (lit_p1 ((A5, C, c5) : Part) _) (h1 _ _ (grown_alloc (grown_refl _ _) _) (rd_lit _ [pv ((A5, C, c5) : Part)] 1 _ rfl) (lt_new _ _) Fresh.lit)⟩
          · cases (show some _ = some o from ho)
            obtain ⟨A, c, hx, hr⟩ := hitem 19 (by decide) ⟨hpre 19 rfl, hout _ (by decide)⟩
            exact ⟨wanted_of (j := 15) rfl rfl (hitem 15 (by decide) ⟨hpre 15 rfl, hout _ (by decide)⟩), wp_rtag (ps := [((A5, C, c5) : Part)]) (l := C) rfl (hitem 17 (by decide) ⟨hpre 17 rfl, hout _ (by decide)⟩) hx ⟨hr, fun p hp => (hin1 p hp).kept hg⟩ rfl (by simp [catP])  (by omega) (Nat.le_of_ble_eq_true rfl) (fun w' hg' => h1 _ _ hg' rfl (fun g e => by cases e) (.inl rfl))⟩
          · cases (show some _ = some o from ho)
            exact ⟨wanted_of (j := 15) rfl rfl (hitem 15 (by decide) ⟨hpre 15 rfl, hout _ (by decide)⟩), wp_bin rfl (hitem 16 (by decide) ⟨hpre 16 rfl, hout _ (by decide)⟩) (hitem 20 (by decide) ⟨hpre 20 rfl, hout _ (by decide)⟩) (guard_hash _ _ _ _ _) (eqlH_true (tagL t C) (sumL_len _) _) (h1 _ _ (grown_refl _ none) rfl (fun g e => by cases e) (.inl rfl))⟩
          · cases (show some _ = some o from ho)
            have hc := hitem 15 (by decide) ⟨hpre 15 rfl, hout _ (by decide)⟩
            have hx := hitem 21 (by decide) ⟨hpre 21 rfl, hout _ (by decide)⟩
            exact ⟨rfl, wp_pick rfl hc (h1 _ _ (grown_refl _ none) hx (lt_bool hx) (Fresh.bool hx))⟩
          · cases (show some _ = some o from ho)
            have hx := hitem 22 (by decide) ⟨hpre 22 rfl, hout _ (by decide)⟩
            exact ⟨rfl, wp_move rfl (h1 _ _ (grown_refl _ none) hx (lt_bool hx) (Fresh.bool hx))⟩
          · cases (show some _ = some o from ho)
            exact ⟨wanted_of (j := 23) rfl rfl (hitem 23 (by decide) ⟨hpre 23 rfl, hout _ (by decide)⟩), wp_move rfl (h1 _ _ (grown_refl _ none) (houter _ rfl) (lt_val (houter _ rfl) rfl) (Fresh.val (houter _ rfl) rfl))⟩
          · cases (show some _ = some o from ho)
            exact ⟨wanted_of (j := 23) rfl rfl (hitem 23 (by decide) ⟨hpre 23 rfl, hout _ (by decide)⟩), wp_tag (ps := []) (l := []) rfl (hitem 24 (by decide) ⟨hpre 24 rfl, hout _ (by decide)⟩) rfl (hnil.kept hg) rfl (rfl)  (hk.kept hg) (hs.kept hg) (Nat.zero_le _) (Nat.le_of_ble_eq_true rfl) (fun w' hg' => h1 _ _ hg' rfl (fun g e => by cases e) (.inl rfl))⟩
          · cases (show some _ = some o from ho)
            exact ⟨wanted_of (j := 23) rfl rfl (hitem 23 (by decide) ⟨hpre 23 rfl, hout _ (by decide)⟩), wp_move rfl (h1 _ _ (grown_refl _ none) (houter _ rfl) (lt_val (houter _ rfl) rfl) (Fresh.val (houter _ rfl) rfl))⟩
          · cases (show some _ = some o from ho)
            exact ⟨wanted_of (j := 23) rfl rfl (hitem 23 (by decide) ⟨hpre 23 rfl, hout _ (by decide)⟩), wp_lit1 rfl (hitem 26 (by decide) ⟨hpre 26 rfl, hout _ (by decide)⟩) (lit_b1 t _) (h1 _ _ (grown_alloc (grown_refl _ _) _) (ownB_new _ _ [t] 1 rfl rfl (by unfold maxLen; omega)) (lt_new _ _) Fresh.lit)⟩
          · cases (show some _ = some o from ho)
            obtain ⟨A, c, hx, q1, q2, hr⟩ := OwnB.slice (hitem 27 (by decide) ⟨hpre 27 rfl, hout _ (by decide)⟩)
            exact ⟨wanted_of (j := 23) rfl rfl (hitem 23 (by decide) ⟨hpre 23 rfl, hout _ (by decide)⟩), wp_sum rfl hx hr rfl q1 q2 (hk.kept hg) (hs.kept hg) (by simp) (fun w' hg' => h1 _ _ hg' rfl (fun g e => by cases e) (.inl rfl))⟩
          · cases (show some _ = some o from ho)
            exact ⟨wanted_of (j := 23) rfl rfl (hitem 23 (by decide) ⟨hpre 23 rfl, hout _ (by decide)⟩), wp_bin rfl (hitem 25 (by decide) ⟨hpre 25 rfl, hout _ (by decide)⟩) (hitem 28 (by decide) ⟨hpre 28 rfl, hout _ (by decide)⟩) (guard_hash _ _ _ _ _) (eqlH_true (tagL t []) (sumL_len _) _) (h1 _ _ (grown_refl _ none) rfl (fun g e => by cases e) (.inl rfl))⟩
          · cases (show some _ = some o from ho)
            have hc := hitem 23 (by decide) ⟨hpre 23 rfl, hout _ (by decide)⟩
            have hx := hitem 29 (by decide) ⟨hpre 29 rfl, hout _ (by decide)⟩
            exact ⟨rfl, wp_pick rfl hc (h1 _ _ (grown_refl _ none) hx (lt_bool hx) (Fresh.bool hx))⟩
          · cases (show some _ = some o from ho)
            have hx := hitem 30 (by decide) ⟨hpre 30 rfl, hout _ (by decide)⟩
            exact ⟨rfl, wp_move rfl (h1 _ _ (grown_refl _ none) hx (lt_bool hx) (Fresh.bool hx))⟩
          · cases (show some _ = some o from ho)
            refine ⟨wanted_of (j := 31) rfl rfl (hitem 31 (by decide) ⟨hpre 31 rfl, hout _ (by decide)⟩), wp_move rfl (h1 _ _ (grown_refl _ none) (houter _ rfl) ?_ ?_)⟩
            · rw [houter _ rfl]; exact fun g e => Nat.lt_of_lt_of_le (hlt5 g e) hg.size
            · rw [houter _ rfl]; exact Fresh.old rfl hlt5
          · cases (show some _ = some o from ho)
            exact ⟨wanted_of (j := 31) rfl rfl (hitem 31 (by decide) ⟨hpre 31 rfl, hout _ (by decide)⟩), wp_sum rfl (hitem 32 (by decide) ⟨hpre 32 rfl, hout _ (by decide)⟩) (hr5.kept hg) rfl hc5 hm5 (hk.kept hg) (hs.kept hg) (by omega) (fun w' hg' => h1 _ _ hg' rfl (fun g e => by cases e) (.inl rfl))⟩
          · cases (show some _ = some o from ho)
            exact ⟨wanted_of (j := 31) rfl rfl (hitem 31 (by decide) ⟨hpre 31 rfl, hout _ (by decide)⟩), wp_lit0 rfl (lit_none _) (h1 _ _ (grown_alloc (grown_refl _ _) _) (ownB_new _ #[] [] 0 rfl rfl (Nat.zero_le _)) (lt_new _ _) Fresh.lit)⟩
          · cases (show some _ = some o from ho)
            refine ⟨wanted_of (j := 31) rfl rfl (hitem 31 (by decide) ⟨hpre 31 rfl, hout _ (by decide)⟩), wp_move rfl (h1 _ _ (grown_refl _ none) (houter _ rfl) ?_ ?_)⟩
            · rw [houter _ rfl]; exact fun g e => Nat.lt_of_lt_of_le (hlt5 g e) hg.size
            · rw [houter _ rfl]; exact Fresh.old rfl hlt5
          · cases (show some _ = some o from ho)
            exact ⟨wanted_of (j := 31) rfl rfl (hitem 31 (by decide) ⟨hpre 31 rfl, hout _ (by decide)⟩), wp_appB rfl rfl (hitem 34 (by decide) ⟨hpre 34 rfl, hLi⟩) (hitem 35 (by decide) ⟨hpre 35 rfl, hout _ (by decide)⟩) rfl (hr5.kept hg) (by simp; omega) fun v w' hv hw => h2 34 v w' (by decide) ⟨hpre 34 rfl, hLi⟩ rfl rfl hw.1 hv (fun g e => hv.lt _ e) (Fresh.ofGrew hw)⟩
          · cases (show some _ = some o from ho)
            obtain ⟨A, c, hx, q1, q2, hr⟩ := OwnB.slice (hitem 36 (by decide) ⟨hpre 36 rfl, hout _ (by decide)⟩)
            exact ⟨wanted_of (j := 31) rfl rfl (hitem 31 (by decide) ⟨hpre 31 rfl, hout _ (by decide)⟩), wp_sum rfl hx hr rfl q1 q2 (hk.kept hg) (hs.kept hg) (by simp; omega) (fun w' hg' => h1 _ _ hg' rfl (fun g e => by cases e) (.inl rfl))⟩
          · cases (show some _ = some o from ho)
            exact ⟨wanted_of (j := 31) rfl rfl (hitem 31 (by decide) ⟨hpre 31 rfl, hout _ (by decide)⟩), wp_bin rfl (hitem 33 (by decide) ⟨hpre 33 rfl, hout _ (by decide)⟩) (hitem 37 (by decide) ⟨hpre 37 rfl, hout _ (by decide)⟩) (guard_hash _ _ _ _ _) (eqlH_true (sumL C) (sumL_len _) _) (h1 _ _ (grown_refl _ none) rfl (fun g e => by cases e) (.inl rfl))⟩
          · cases (show some _ = some o from ho)
            have hc := hitem 31 (by decide) ⟨hpre 31 rfl, hout _ (by decide)⟩
            have hx := hitem 38 (by decide) ⟨hpre 38 rfl, hout _ (by decide)⟩
            exact ⟨rfl, wp_pick rfl hc (h1 _ _ (grown_refl _ none) hx (lt_bool hx) (Fresh.bool hx))⟩
          · cases (show some _ = some o from ho)
            have hx := hitem 39 (by decide) ⟨hpre 39 rfl, hout _ (by decide)⟩
            exact ⟨rfl, wp_move rfl (h1 _ _ (grown_refl _ none) hx (lt_bool hx) (Fresh.bool hx))⟩
          · cases (show some _ = some o from ho)
            exact ⟨wanted_of (j := 40) rfl rfl (hitem 40 (by decide) ⟨hpre 40 rfl, hout _ (by decide)⟩), wp_sruns rfl (hk.kept hg) (hs.kept hg) (fun w' hg' => h1 _ _ hg' rfl (fun g e => by cases e) (.inl rfl))⟩
          · cases (show some _ = some o from ho)
            have hc := hitem 40 (by decide) ⟨hpre 40 rfl, hout _ (by decide)⟩
            have hx := hitem 41 (by decide) ⟨hpre 41 rfl, hout _ (by decide)⟩
            exact ⟨rfl, wp_pick rfl hc (h1 _ _ (grown_refl _ none) hx (lt_bool hx) (Fresh.bool hx))⟩
          · cases (show some _ = some o from ho)
            have hx := hitem 42 (by decide) ⟨hpre 42 rfl, hout _ (by decide)⟩
            exact ⟨rfl, wp_assign rfl (h1 _ _ (grown_refl _ none) hx (lt_bool hx) (Fresh.bool hx))⟩
        · intro a w hg hend ha
          obtain ⟨hv, -⟩ := hend 43 (by decide) (by decide)
          obtain ⟨f, hf⟩ : ∃ f : Nat → Value, f = fun t => a.tmps.getD t undef := ⟨_, rfl⟩
          have h6 : f 4 = .bool true := by rw [hf]; exact hv
          rw [← hf] at ha
          clear hv hend
          clear hf
          subst ha
          simp only [Act.put, fill, gpS, Nat.reduceAdd, Nat.reduceBEq, Nat.reduceLeDiff, decide_false, decide_true, Bool.or_false, Bool.or_true, Bool.and_true, cond_true, cond_false, h6]
          go_wp2_with fail
          go_ret
          exact ⟨rfl, grown_same hgW hg⟩
end Go.Proofs.YtcooadmepkojfaaDoor
