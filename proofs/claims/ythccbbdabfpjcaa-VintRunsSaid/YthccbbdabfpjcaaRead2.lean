/- The contracts of package vint's Reader, the rest: a text, a hash, is it good, is it done. -/
import Derived.Test.YthccbbdabfpjcaaRead
import Derived.Deep.RegionLaw
namespace Go.Proofs.Ythccbbdabfpjcaa
open Go.RowKit

theorem isR_cells {w : World} {g : Nat} {l : List UInt8} {bad : Bool} (h : IsR w g l bad) : ∃ A c, w.cell? ⟨g, 0, none⟩ = some (.slice A l.length c) ∧ w.cell? ⟨g, 1, none⟩ = some (.bool bad) := by
  obtain ⟨A, c, h1, _⟩ := h
  exact ⟨A, c, by rw [cell_of_row w g 0 _ _ _ h1]; rfl, by rw [cell_of_row w g 1 _ _ _ h1]; rfl⟩

theorem Good_any (g : Nat) (s : RState) (w : World) (h : IsR w g s.1 s.2) :
    Calls Try.prog 13 #[.pointer (some ⟨g, 0, none⟩)] w fun e w' => e = .returned (.bool (!s.2)) ∧ w = w' := by
  obtain ⟨A, c, h0, h1⟩ := isR_cells h
  go_enter Try.func13, Try.ntmps13
  go_wp2
  go_ret
  exact ⟨rfl, rfl⟩

theorem Done_any (g : Nat) (s : RState) (w : World) (h : IsR w g s.1 s.2) :
    Calls Try.prog 23 #[.pointer (some ⟨g, 0, none⟩)] w fun e w' => e = .returned (.bool (!s.2 && s.1.isEmpty)) ∧ w = w' := by
  obtain ⟨A, c, h0, h1⟩ := isR_cells h
  obtain ⟨l, bad⟩ := s
  cases bad with
  | true =>
    go_enter Try.func23, Try.ntmps23
    go_wp2
    go_ret
    exact ⟨rfl, rfl⟩
  | false =>
    by_cases hl : l.length = 0
    · have hlb : ((l.length : Int) == 0) = true := by simp [hl]
      have HL := Lib.hid hl
      clear hl
      go_enter Try.func23, Try.ntmps23
      go_wp2
      go_ret
      exact ⟨ret_bool (by simp [List.eq_nil_of_length_eq_zero HL.out]), rfl⟩
    · have hlb : ((l.length : Int) == 0) = false := by rw [beq_eq_false_iff_ne]; omega
      go_enter Try.func23, Try.ntmps23
      go_wp2
      go_ret
      exact ⟨ret_bool (by cases l with
        | nil => exact absurd rfl hl
        | cons b r => rfl), rfl⟩

set_option maxHeartbeats 400000 in
theorem RText_any (g : Nat) (s : RState) (w : World) (h : IsR w g s.1 s.2) :
    Calls Try.prog 21 #[.pointer (some ⟨g, 0, none⟩)] w fun e w' => e = .returned (.string ⟨(rText s).1.toArray⟩) ∧ IsR w' g (rText s).2.1 (rText s).2.2 ∧ w.grownBy w' (some g) := by
  by_cases hn : (rNum s).2.1.length < (rNum s).1
  · have hR : Hid (rText s = ([], ([], true))) := by show rText s = _; unfold rText rTake; rw [if_pos hn]
    have hcv : ∀ W : World, (convert 24 9 (.slice none 0 0)).run Try.prog W = .ok (.string ⟨#[]⟩) W := fun W => run_text (P := Try.prog) W 24 9 5 (l := []) 0 Try.underlying24 Try.underlying5 Try.underlying9 RdAt.nil
    go_enter Try.func21, Try.ntmps21
    go_wp2_with (first | (go_at_call 10; refine (Number_any g s _ h).mono ?_; rintro e w1 ⟨rfl, hr1, hg1⟩) | (go_at_call 27; refine (take_no g _ _ _ _ hr1 hn).mono ?_; rintro e w2 ⟨rfl, hr2, hg2⟩))
    go_ret
    rw [hR.out]
    exact ⟨rfl, hr2, grown_same hg1 hg2⟩
  · obtain ⟨L, B, hT⟩ : ∃ L B, (rNum s).2 = (L, B) := ⟨_, _, rfl⟩
    obtain ⟨n, hN⟩ : ∃ n, n = (rNum s).1 := ⟨_, rfl⟩
    have hR : Hid (rText s = (L.take n, (L.drop n, B))) := by
      show rText s = _
      unfold rText rTake
      rw [if_neg hn, hT, hN]
    have hn' : n ≤ L.length := by rw [hT] at hn; simp only at hn; omega
    have hc := Number_any g s w h
    rw [hT, ← hN] at hc
    have HN := Lib.hid hN
    have HT := Lib.hid hT
    have HC := Lib.hid hc
    clear hN hT hc hn
    obtain ⟨X, hX⟩ : ∃ X, X = L.take n := ⟨_, rfl⟩
    have hXl : Hid (X.length = n) := by show _ = _; rw [hX, List.length_take]; omega
    rw [← hX] at hR
    have HX := Lib.hid hX
    clear hX
    have hcv : ∀ (W : World) (A : Option Addr) (c : Nat), RdB W A X → (convert 24 9 (.slice A n c)).run Try.prog W = .ok (.string ⟨X.toArray⟩) W := fun W A c hr => by
      have := run_text (P := Try.prog) W 24 9 5 (l := X) c Try.underlying24 Try.underlying5 Try.underlying9 hr
      rw [hXl.out] at this
      exact this
    have HCV := Lib.hid hcv
    clear hcv
    go_enter Try.func21, Try.ntmps21
    go_wp2_with (first | (go_at_call 10; refine HC.out.mono ?_; rintro e w1 ⟨rfl, hr1, hg1⟩) | (go_at_call 27; refine (take_ok g n _ _ _ hr1 hn').mono ?_; rintro e w2 ⟨A2, c2, rfl, q1, q2, q3, q4, hr2, hg2⟩; rw [← HX.out] at q3; have hcv2 := HCV.out w2 A2 c2 q3))
    go_ret
    rw [hR.out]
    exact ⟨rfl, hr2, grown_same hg1 hg2⟩

/-- 'copy(h[:], b)' as a step of a region that draws: a whole row is written over. -/
theorem step_copy_all {P : Program} {ops : Array Oper} {o : Oper} {a : Act} {w : World} {K : Act → World → Prop} {Q : Exit → Act → World → Prop} {E : Prop} (hgd : o.guard = none) (d s : Operand) (dT sT : TypeId)
    (ho : o.op = .call { callee := .builtin .copy, args := #[d, s], argTypes := #[dT, sT] }) (elem : TypeId) (hu : P.underlying dT = some (.slice elem)) (hsz : (P.info? elem).map (·.size) = some 1)
    (g n dCap sCap : Nat) (A : Option Addr) (hd : a.eval d = .slice (some ⟨g, 0, none⟩) n dCap) (hs : a.eval s = .slice A n sCap)
    (cur : Array Value) (t : TypeId) (hg : w.heap[g]? = some (.cells cur t (0, 0))) (cs : List Value) (hn : cs.length = n) (hn0 : 0 < n) (hr : RdAt w A cs)
    (hfit : cur.size = n) (h1 : ∀ v ∈ cs, v.oneCell' = true)
    (h : K (a.put o.dst (goInt n)) (w.setRow g cs.toArray)) :
    if Region.wanted o (yielded ops a.tmps) = true then Oper.wp P o a w K Q else E := by
  have hw : Region.wanted o (yielded ops a.tmps) = true := by simp [Region.wanted, hgd]
  rw [if_pos hw]
  rcases hr with rfl | ⟨ad, rfl, hc⟩
  · simp at hn; omega
  · have hrun := run_copy_row (P := P) w dT sT o.type elem g 0 n dCap ad n sCap cur t cs hu hsz hg (by rw [hn]; exact (Nat.min_self n).symm) hc (by omega) h1
    have e : (cur.toList.take 0 ++ cs ++ cur.toList.drop (0 + cs.length)) = cs := by
      rw [List.drop_eq_nil_of_le (by rw [Array.length_toList]; omega)]; simp
    rw [e, hn] at hrun
    unfold Oper.wp
    simp [execOp, ho, resolve, invoke, builtin, hd, hs, hrun, Result.andThen]
    exact h
/-- .. of nothing. -/
theorem step_copy_none {P : Program} {ops : Array Oper} {o : Oper} {a : Act} {w : World} {K : Act → World → Prop} {Q : Exit → Act → World → Prop} {E : Prop} (hgd : o.guard = none) (d s : Operand) (dT sT : TypeId)
    (ho : o.op = .call { callee := .builtin .copy, args := #[d, s], argTypes := #[dT, sT] }) (elem : TypeId) (hu : P.underlying dT = some (.slice elem)) (hsz : (P.info? elem).map (·.size) = some 1)
    (dp sp : Option Addr) (dLen dCap sCap : Nat) (hd : a.eval d = .slice dp dLen dCap) (hs : a.eval s = .slice sp 0 sCap)
    (h : K (a.put o.dst (goInt 0)) w) :
    if Region.wanted o (yielded ops a.tmps) = true then Oper.wp P o a w K Q else E := by
  have hw : Region.wanted o (yielded ops a.tmps) = true := by simp [Region.wanted, hgd]
  rw [if_pos hw]
  have hrun := run_copy_none (P := P) w dT sT o.type elem dp sp dLen dCap 0 sCap hu hsz (Nat.zero_min _)
  unfold Oper.wp
  simp [execOp, ho, resolve, invoke, builtin, hd, hs, hrun, Result.andThen]
  exact h

/-- An operation that is wanted here, guarded or not. -/
theorem wpList_wanted {P : Program} {ops : Array Oper} {rest : List Oper} {o : Oper} {a : Act} {w : World} {Q : Exit → Act → World → Prop} (hw : Region.wanted o (yielded ops a.tmps) = true)
    (h : ∀ K : Act → World → Prop, (∀ a w, wpList P ops Q rest a w → K a w) → o.wp P a w K Q) : wpList P ops Q (o :: rest) a w :=
  wpList_step fun K hK => by simp only [hw, if_true]; exact h K hK
theorem wpList_load_row_g {P : Program} {ops : Array Oper} {rest : List Oper} {o : Oper} {a : Act} {w : World} {Q : Exit → Act → World → Prop} (hw : Region.wanted o (yielded ops a.tmps) = true) (ty : TypeId) (x : Operand) (ho : o.op = .load ty x)
    (g : Nat) (hx : a.eval x = .pointer (some ⟨g, 0, none⟩)) (t : TypeId) (cs : Array Value) (fr : Nat × Nat) (d : TypeDesc) (hg : w.heap[g]? = some (.cells cs t fr))
    (hu : P.underlying ty = some d) (hd : (match d with | .struct _ | .array _ _ => true | _ => false) = true) (hi : (P.info? ty).map (·.size) = some cs.size)
    (h : wpList P ops Q rest (a.put o.dst (.agg cs)) w) : wpList P ops Q (o :: rest) a w :=
  wpList_wanted hw fun _ hK => wp_load_row ty x ho g hx t cs fr d hg hu hd hi (hK _ _ h)

theorem bv_all (l : List UInt8) : (l.map bv).toArray.all (·.oneCell') = true := by
  rw [Array.all_eq_true_iff_forall_mem]; intro x hx; exact bv_one l x (by simpa using hx)
theorem size_u8 : (Try.prog.info? 5).map (·.size) = some 1 := by kernel_rfl

set_option maxHeartbeats 400000 in
theorem RHash_any (g : Nat) (s : RState) (w : World) (h : IsR w g s.1 s.2) :
    Calls Try.prog 22 #[.pointer (some ⟨g, 0, none⟩)] w fun e w' => e = .returned (.agg ((rHash s).1.map bv).toArray) ∧ IsR w' g (rHash s).2.1 (rHash s).2.2 ∧ w.grownBy w' (some g) := by
  have hlt := h.lt
  by_cases hn : s.1.length < 32
  · have hR : Hid (rHash s = (List.replicate 32 0, ([], true))) := by show rHash s = _; unfold rHash; rw [if_pos hn]
    have hD : ∀ o1 o2 : Obj, IsR ((w.alloc o1).alloc o2).drew g s.1 s.2 := fun o1 o2 => h.kept (grown_drew (grown_alloc (grown_alloc (grown_refl _ _) _) _))
    go_enter Try.func22, Try.ntmps22
    go_wp2
    go_region_law (first | (refine step_copy_none rfl _ _ _ _ rfl 5 Try.underlying24 size_u8 _ _ _ _ _ rfl rfl ?_) | (go_simp; go_at_call 27; refine (take_no g 32 _ _ _ (hD _ _) hn).mono ?_; rintro e w2 ⟨rfl, hr2, hg2⟩))
    have hb0 : w2.heap[w.heap.size]? = _ := (hg2.block w.heap.size (by simp; omega) (by simp; omega)).trans (heap_alloc2_old w _ _)
    have hb1 : w2.heap[w.heap.size + 1]? = _ := (hg2.block (w.heap.size + 1) (by simp) (by simp; omega)).trans (heap_alloc2_new w _ _)
    go_wp2_with (first | (refine wpList_load_row rfl 33 _ rfl (w.heap.size + 1) rfl 33 _ (0, 0) _ hb1 Try.underlying33 rfl size_hash ?_) | (refine wpList_store_row rfl 33 _ _ rfl w.heap.size ((List.replicate 32 (0 : UInt8)).map bv).toArray rfl rfl 33 _ hb0 (by exact size_hash) (by rfl) (bv_all _) ?_))
    refine bodyPost_ret (results_cell_row rfl _ _ w.heap.size 33 ((List.replicate 32 (0 : UInt8)).map bv).toArray (0, 0) _ rfl (setRow_heap _ _ _ _ _ _ hb0) Try.underlying33 rfl (by exact size_hash)) rfl ?_
    rw [hR.out]
    have hgr : w2.grownBy (w2.setRow w.heap.size ((List.replicate 32 (0 : UInt8)).map bv).toArray) (some w.heap.size) := grown_setRow (grown_refl _ _) (.inl rfl) _
    have hgw : w.grownBy w2 (some g) := grown_same (grown_drew (grown_alloc (grown_alloc (grown_refl _ _) _) _)) hg2
    have h3 := hr2.keep hgr (fun r e => by injection e with e; omega)
    have h4 := grown_trans hgw hgr (.inr fun r e => by injection e with e; omega)
    exact ⟨rfl, h3, h4⟩
  · obtain ⟨X, hX⟩ : ∃ X, X = s.1.take 32 := ⟨_, rfl⟩
    have hR : Hid (rHash s = (X, (s.1.drop 32, s.2))) := by show rHash s = _; unfold rHash; rw [if_neg hn, hX]
    have hXl : Hid (X.length = 32) := by show _ = _; rw [hX, List.length_take]; omega
    have hXs : (Try.prog.info? 33).map (·.size) = some (X.map bv).toArray.size := by rw [List.size_toArray, List.length_map, hXl.out]; exact size_hash
    have HXS := Lib.hid hXs
    have HX := Lib.hid hX
    clear hX hXs
    have hD : ∀ o1 o2 : Obj, IsR ((w.alloc o1).alloc o2).drew g s.1 s.2 := fun o1 o2 => h.kept (grown_drew (grown_alloc (grown_alloc (grown_refl _ _) _) _))
    go_enter Try.func22, Try.ntmps22
    go_wp2
    go_region_law (first | (refine step_copy_all rfl _ _ _ _ rfl 5 Try.underlying24 size_u8 (w.heap.size + 1) 32 _ _ _ rfl rfl _ 33 hb1 (X.map bv) (by rw [List.length_map]; exact hXl.out) (by omega) q3 rfl (bv_one _) ?_) | (go_simp; go_at_call 27; refine (take_ok g 32 _ _ _ (hD _ _) (by omega)).mono ?_; rintro e w2 ⟨A2, c2, rfl, q1, q2, q3, q4, hr2, hg2⟩; rw [← HX.out] at q3; have hb0 : w2.heap[w.heap.size]? = _ := (hg2.block w.heap.size (by simp; omega) (by simp; omega)).trans (heap_alloc2_old w _ _); have hb1 : w2.heap[w.heap.size + 1]? = _ := (hg2.block (w.heap.size + 1) (by simp) (by simp; omega)).trans (heap_alloc2_new w _ _)))
    have hb2 := setRow_heap w2 (w.heap.size + 1) _ (X.map bv).toArray _ _ hb1
    have hb3 := (setRow_other w2 (w.heap.size + 1) w.heap.size (X.map bv).toArray (by omega)).trans hb0
    go_wp2_with (first | (refine wpList_load_row rfl 33 _ rfl (w.heap.size + 1) rfl 33 _ (0, 0) _ hb2 Try.underlying33 rfl HXS.out ?_) | (refine wpList_store_row rfl 33 _ _ rfl w.heap.size (X.map bv).toArray rfl rfl 33 _ hb3 HXS.out (by simp [hXl.out]) (bv_all _) ?_))
    refine bodyPost_ret (results_cell_row rfl _ _ w.heap.size 33 (X.map bv).toArray (0, 0) _ rfl (setRow_heap _ _ _ _ _ _ hb3) Try.underlying33 rfl HXS.out) rfl ?_
    rw [hR.out]
    have hgr : w2.grownBy (w2.setRow (w.heap.size + 1) (X.map bv).toArray) (some (w.heap.size + 1)) := grown_setRow (grown_refl _ _) (.inl rfl) _
    have hgr2 : (w2.setRow (w.heap.size + 1) (X.map bv).toArray).grownBy ((w2.setRow (w.heap.size + 1) (X.map bv).toArray).setRow w.heap.size (X.map bv).toArray) (some w.heap.size) := grown_setRow (grown_refl _ _) (.inl rfl) _
    have hgw : w.grownBy w2 (some g) := grown_same (grown_drew (grown_alloc (grown_alloc (grown_refl _ _) _) _)) hg2
    have h3 := (hr2.keep hgr (fun r e => by injection e with e; omega)).keep hgr2 (fun r e => by injection e with e; omega)
    have h4 := grown_trans (grown_trans hgw hgr (.inr fun r e => by injection e with e; omega)) hgr2 (.inr fun r e => by injection e with e; omega)
    exact ⟨rfl, h3, h4⟩
end Go.Proofs.Ythccbbdabfpjcaa
