/- Tagged sums: the contracts of package sha's Tagged and of the document's own. -/
import Derived.Test.YtmfnncfiaaeknaaDoorRSum
import Derived.Laws.MakeOwn
namespace Go.Proofs.YtmfnncfiaaeknaaDoor
open Go.RowKit

/-- A part: where it lies, what it reads as, its room. -/
abbrev Part := Option Addr × List UInt8 × Nat
def pv (p : Part) : Value := .slice p.1 p.2.1.length p.2.2
def catP (ps : List Part) : List UInt8 := (ps.map fun p => p.2.1).flatten
/-- Parts as they can be read. -/
def RdP (w : World) (A : Option Addr) (ps : List Part) : Prop := RdAt w A (ps.map pv) ∧ ∀ p ∈ ps, RdB w p.1 p.2.1
theorem RdP.kept {w w' : World} {A : Option Addr} {ps : List Part} (h : RdP w A ps) (hg : w.grownBy w' none) : RdP w' A ps :=
  ⟨h.1.kept hg, fun p hp => (h.2 p hp).kept hg⟩
theorem RdP.get {w : World} {A : Option Addr} {ps : List Part} (h : RdP w A ps) {k : Nat} (hk : k < ps.length) :
    ∃ ad, A = some ad ∧ w.cell? (ad.add k) = some (.slice ps[k].1 ps[k].2.1.length ps[k].2.2) ∧ RdB w ps[k].1 ps[k].2.1 := by
  obtain ⟨ad, e, hc⟩ := RdAt.get h.1 (k := k) (by simpa using hk)
  exact ⟨ad, e, by simpa [pv] using hc, h.2 _ (List.getElem_mem hk)⟩
theorem catP_take {ps : List Part} {k : Nat} (hk : k < ps.length) : catP (ps.take (k + 1)) = catP (ps.take k) ++ ps[k].2.1 := by
  unfold catP
  rw [List.take_succ_eq_append_getElem hk, List.map_append, List.flatten_append, List.map_singleton, List.flatten_singleton]
theorem catP_le {ps : List Part} (k : Nat) : (catP (ps.take k)).length ≤ (catP ps).length := by
  have : catP ps = catP (ps.take k) ++ catP (ps.drop k) := by
    unfold catP
    rw [← List.flatten_append, ← List.map_append, List.take_append_drop]
  rw [this, List.length_append]
  omega

theorem ownB_of {w : World} {g n cap : Nat} {cs : Array Value} {l : List UInt8} (hg : w.heap[g]? = some (.cells cs 5 (0, 0))) (hl : l.length = n) (h : cs.toList.take n = l.map bv) (hs : cs.size = cap) (hn : n ≤ cap) (hm : cap ≤ maxLen) :
    OwnB w (.slice (some ⟨g, 0, none⟩) n cap) l := by
  have hlt : g < w.heap.size := (Array.getElem?_eq_some_iff.1 hg).1
  refine ⟨g, by omega, by simp, .inr ⟨g, cap, cs, by rw [List.length_map, hl], Nat.le_refl _, hg, by rw [List.length_map]; omega, hm, by omega, ?_⟩⟩
  rw [Nat.mul_one, List.length_map, hl]
  exact h
theorem made_bytes (n : Nat) : madeCells (Value.int .u8 0).cells (n * 1) = (List.replicate n (Value.int .u8 0)).toArray := by
  apply Array.ext'
  apply List.ext_getElem
  · simp [madeCells]
  · intro i h1 h2
    simp [madeCells, Value.cells, Nat.mod_one]
theorem make_tag (n : Nat) (h0 : 1 ≤ n) (h : n ≤ 1000000100) (w : World) : (Instr.makeSlice 24 (.int .i64 1) (.int .i64 (n : Int))).run Tryd.prog w = .ok (.slice (some ⟨w.heap.size, 0, none⟩) 1 n) (w.alloc (.cells (List.replicate n (Value.int .u8 0)).toArray 5)) := by
  obtain ⟨i, hi, hz, hs, hb⟩ := info_parts info_u8
  have := run_make (P := Tryd.prog) w 24 5 i (.int .u8 0) Tryd.underlying24 hi hz .i64 .i64 1 (n : Int) (by omega) (by omega) (by rw [hb]; omega) (by omega)
  rw [hs, Int.toNat_natCast, made_bytes] at this
  exact this

set_option maxRecDepth 100000 in
set_option maxHeartbeats 2000000 in
theorem Tagged_any (t : UInt8) (A : Option Addr) (ps : List Part) (c : Nat) (w : World) (hk : LaidK w) (hs : LaidS w) (hA : RdP w A ps) (hb : (catP ps).length ≤ 100000000) (hn : ps.length ≤ 100000000) :
    Calls Tryd.prog 38 #[.int .u8 (t.toNat : Int), .slice A ps.length c] w fun e w' => e = .returned (.agg ((tagL t (catP ps)).map bv).toArray) ∧ w.grownBy w' none := by
  go_enter Tryd.func38, Tryd.ntmps38
  go_wp2
  go_loopw [5, 13] (fun x i wr => ∃ k : Nat, k ≤ ps.length ∧ i = .int .i64 k ∧ x = .int .i64 ((1 + (catP (ps.take k)).length : Nat) : Int) ∧ Hid (wr.heap[w.heap.size]? = some (.cells (rowH []) 23 (0, 0))) ∧ w.grownBy wr none) (fun _ i _ => ps.length - (intOf i).toNat)
  case atStart => exact ⟨0, by omega, rfl, rfl, heap_alloc_new _ _, grown_alloc (grown_refl _ _) _⟩
  case round =>
    obtain ⟨k, hkl, rfl, rfl, hR, hg⟩ := hrel
    by_cases hlt : k < ps.length
    · obtain ⟨ad, rfl, hc, hrd⟩ := (hA.kept hg).get hlt
      have hle := catP_le (ps := ps) (k + 1)
      have hnx := catP_take hlt
      obtain ⟨q, hq⟩ : ∃ q, q = 1 + (catP (ps.take k)).length := ⟨_, rfl⟩
      obtain ⟨m, hm⟩ : ∃ m, m = ps[k].2.1.length := ⟨_, rfl⟩
      rw [← hq]
      rw [← hm] at hc
      have hqm : q + m ≤ 100000001 := by
        have := congrArg List.length hnx
        rw [List.length_append] at this
        omega
      have HQ : Hid (1 + (catP (ps.take (k + 1))).length = q + m) := by
        show _ = _
        rw [hnx, List.length_append]; omega
      clear hnx hle hq hm
      go_wp2
      go_roundw
      case rel => exact ⟨k + 1, by omega, by go_num, by rw [HQ.out]; go_num, hR, hg⟩
      case measure => simp [intOf]; omega
    · have hkk : k = ps.length := by omega
      subst hkk
      obtain ⟨q, hq⟩ : ∃ q, q = 1 + (catP ps).length := ⟨_, rfl⟩
      rw [List.take_length, ← hq]
      have hmk := make_tag q (by omega) (by omega) wr
      have HQ := Lib.hid hq
      obtain ⟨C, hC⟩ : ∃ C, C = List.replicate q (Value.int .u8 0) := ⟨_, rfl⟩
      rw [← hC] at hmk
      have HC := Lib.hid hC
      have hq1 : 1 ≤ q := by omega
      have z0 : (wr.alloc (.cells C.toArray 5)).cell? ⟨wr.heap.size, 0, none⟩ = some (.int .u8 0) := by
        rw [cell_of_row _ _ _ _ _ _ (heap_alloc_new _ _), hC]
        obtain ⟨q', rfl⟩ : ∃ q', q = q' + 1 := ⟨q - 1, by omega⟩
        simp [List.replicate_succ]
      have f0 : (wr.alloc (.cells C.toArray 5)).frozen? ⟨wr.heap.size, 0, none⟩ = false := frozen_of_row _ _ _ _ _ (heap_alloc_new _ _)
      clear hq hC
      go_wp2
      have ho : OwnB (wr.alloc (.cells (C.set 0 (.int .u8 (t.toNat : Int))).toArray 5)) (.slice (some ⟨wr.heap.size, 0, none⟩) 1 q) (t :: catP (ps.take 0)) := by
        refine ownB_of (heap_alloc_new _ _) rfl ?_ (by rw [HC.out]; simp) hq1 (by unfold maxLen; have := HQ.out; omega)
        obtain ⟨q', hq'⟩ : ∃ q', q = q' + 1 := ⟨q - 1, by omega⟩
        rw [HC.out, hq']
        simp [List.replicate_succ, bv, catP]
      have hgr : Grew wr (wr.alloc (.cells (C.set 0 (.int .u8 (t.toNat : Int))).toArray 5)) (.slice none 0 0) (.slice (some ⟨wr.heap.size, 0, none⟩) 1 q) :=
        ⟨grown_alloc (grown_refl _ _) _, .inr ⟨_, rfl, Nat.le_refl _⟩⟩
      clear hmk z0 f0 HC
      generalize wr.alloc (.cells (C.set 0 (.int .u8 (t.toNat : Int))).toArray 5) = w2 at ho hgr ⊢
      obtain ⟨w1, hw1⟩ : ∃ w1, w1 = wr := ⟨_, rfl⟩
      rw [← hw1] at hR hg hgr ho ⊢
      clear hw1
      go_loopw [8, 29] (fun x i wz => ∃ k : Nat, k ≤ ps.length ∧ i = .int .i64 k ∧ OwnB wz x (t :: catP (ps.take k)) ∧ Grew w1 wz (.slice none 0 0) x) (fun _ i _ => ps.length - (intOf i).toNat)
      case atStart => exact ⟨0, by omega, rfl, ho, hgr⟩
      case round =>
        clear ho hgr
        obtain ⟨k, hkl, rfl, ho, hgr⟩ := hrel
        have hgn := hgr.nil
        have hgw := grown_same hg hgn
        by_cases hlt : k < ps.length
        · obtain ⟨ad, rfl, hc, hrd⟩ := (hA.kept hgw).get hlt
          have hle := catP_le (ps := ps) (k + 1)
          have hnx := catP_take hlt
          obtain ⟨L, hL⟩ : ∃ L, L = ps[k].2.1 := ⟨_, rfl⟩
          rw [← hL] at hc hrd hnx
          have hlen : Hid ((t :: catP (ps.take k)).length + L.length ≤ 100000001) := by
            show _ ≤ _
            have := congrArg List.length hnx
            rw [List.length_append] at this
            rw [List.length_cons]
            omega
          have HNX := Lib.hid hnx
          clear hnx hle hL
          go_wp2_with (at_builtin; refine wpList_appB (v := u8) _ rfl _ _ rfl rfl ho (news := L) rfl rfl hrd (by have := hlen.out; omega) ?_; intro v6 w6 ho6 hgr6)
          go_roundw
          case rel =>
            refine ⟨k + 1, by omega, by go_num, ?_, hgr.trans hgr6⟩
            rw [HNX.out]
            exact ho6
          case measure => simp [intOf]; omega
        · have hkk : k = ps.length := by omega
          subst hkk
          rw [List.take_length] at ho
          obtain ⟨A5, c5, rfl, hc5, hm5, hr5⟩ := ho.slice
          have hsum := fun w' (h1 : LaidK w') (h2 : LaidS w') (h3 : RdB w' A5 (t :: catP ps)) => Sum_any A5 (t :: catP ps) c5 w' h1 h2 h3 hc5 hm5 (by rw [List.length_cons]; omega)
          obtain ⟨X, hX⟩ : ∃ X, X = sumL (t :: catP ps) := ⟨_, rfl⟩
          rw [← hX] at hsum
          have HX : Hid (X = tagL t (catP ps)) := by show _ = _; rw [hX]; rfl
          have hXl : Hid (X.length = 32) := by rw [hX]; exact sumL_len _
          have HS : Hid ((Tryd.prog.info? 23).map (·.size) = some (X.map bv).toArray.size) := by rw [List.size_toArray, List.length_map, hXl.out]; exact size_hash
          clear hX
          go_wp2_with (first
            | (go_at_call 44; refine (hsum _ (hk.kept hgw) (hs.kept hgw) hr5).mono ?_; rintro e w6 ⟨rfl, hg6⟩)
            | (refine wpList_store_row rfl 23 _ _ rfl w.heap.size (X.map bv).toArray rfl rfl 23 (rowH []) (keep_of (keep_of hR.out hgn) hg6) HS.out (by rw [rowH_size _ (by simp), List.size_toArray, List.length_map, hXl.out]) (bv_all' _) ?_))
          refine bodyPost_ret (results_cell_row rfl _ _ w.heap.size 23 (X.map bv).toArray (0, 0) _ rfl (setRow_heap _ _ _ _ _ _ (keep_of (keep_of hR.out hgn) hg6)) Tryd.underlying23 rfl HS.out) rfl ?_
          exact ⟨by rw [HX.out], grown_setRow (grown_same hgw hg6) (.inr (Nat.le_refl _)) _⟩

set_option maxRecDepth 100000 in
set_option maxHeartbeats 2000000 in
theorem RTagged_any (t : UInt8) (A : Option Addr) (ps : List Part) (c : Nat) (w : World) (hA : RdP w A ps) (hb : (catP ps).length ≤ 100000000) (hn : ps.length ≤ 100000000) :
    Calls Tryd.prog 26 #[.int .u8 (t.toNat : Int), .slice A ps.length c] w fun e w' => e = .returned (.agg ((tagL t (catP ps)).map bv).toArray) ∧ w.grownBy w' none := by
  go_enter Tryd.func26, Tryd.ntmps26
  go_wp2
  have hR : Hid ((w.alloc (.cells (rowH []) 23)).heap[w.heap.size]? = some (.cells (rowH []) 23 (0, 0))) := heap_alloc_new _ _
  have hg : w.grownBy (w.alloc (.cells (rowH []) 23)) none := grown_alloc (grown_refl _ _) _
  have hs1 : (w.alloc (.cells (rowH []) 23)).heap.size = w.heap.size + 1 := by simp
  have ho : OwnB ((w.alloc (.cells (rowH []) 23)).alloc (.cells #[Value.int .u8 (t.toNat : Int)] 5)) (.slice (some ⟨w.heap.size + 1, 0, none⟩) 1 1) (t :: catP (ps.take 0)) := by
    rw [← hs1]
    exact ownB_new _ _ _ _ rfl rfl (by unfold maxLen; omega)
  have hgr : Grew (w.alloc (.cells (rowH []) 23)) ((w.alloc (.cells (rowH []) 23)).alloc (.cells #[Value.int .u8 (t.toNat : Int)] 5)) (.slice none 0 0) (.slice (some ⟨w.heap.size + 1, 0, none⟩) 1 1) :=
    ⟨grown_alloc (grown_refl _ _) _, .inr ⟨_, rfl, by rw [hs1]; exact Nat.le_refl _⟩⟩
  clear hs1
  change Code.wp _ _ _ _ ((w.alloc (.cells (rowH []) 23)).alloc (.cells #[Value.int .u8 (t.toNat : Int)] 5))
  generalize (w.alloc (.cells (rowH []) 23)).alloc (.cells #[Value.int .u8 (t.toNat : Int)] 5) = w2 at ho hgr ⊢
  generalize w.alloc (.cells (rowH []) 23) = w1 at hR hg hgr
  go_loopw [5, 12] (fun x i wz => ∃ k : Nat, k ≤ ps.length ∧ i = .int .i64 k ∧ OwnB wz x (t :: catP (ps.take k)) ∧ Grew w1 wz (.slice none 0 0) x) (fun _ i _ => ps.length - (intOf i).toNat)
  case atStart => exact ⟨0, by omega, rfl, ho, hgr⟩
  case round =>
    clear ho hgr
    obtain ⟨k, hkl, rfl, ho, hgr⟩ := hrel
    have hgn := hgr.nil
    have hgw := grown_same hg hgn
    by_cases hlt : k < ps.length
    · obtain ⟨ad, rfl, hc, hrd⟩ := (hA.kept hgw).get hlt
      have hle := catP_le (ps := ps) (k + 1)
      have hnx := catP_take hlt
      obtain ⟨L, hL⟩ : ∃ L, L = ps[k].2.1 := ⟨_, rfl⟩
      rw [← hL] at hc hrd hnx
      have hlen : Hid ((t :: catP (ps.take k)).length + L.length ≤ 100000001) := by
        show _ ≤ _
        have := congrArg List.length hnx
        rw [List.length_append] at this
        rw [List.length_cons]
        omega
      have HNX := Lib.hid hnx
      clear hnx hle hL
      go_wp2_with (at_builtin; refine wpList_appB (v := u5) _ rfl _ _ rfl rfl ho (news := L) rfl rfl hrd (by have := hlen.out; omega) ?_; intro v6 w6 ho6 hgr6)
      go_roundw
      case rel =>
        refine ⟨k + 1, by omega, by go_num, ?_, hgr.trans hgr6⟩
        rw [HNX.out]
        exact ho6
      case measure => simp [intOf]; omega
    · have hkk : k = ps.length := by omega
      subst hkk
      rw [List.take_length] at ho
      obtain ⟨A5, c5, rfl, hc5, hm5, hr5⟩ := ho.slice
      have hsum := fun w' (h3 : RdB w' A5 (t :: catP ps)) => RSum_any A5 (t :: catP ps) c5 w' h3 (by rw [List.length_cons]; omega)
      obtain ⟨X, hX⟩ : ∃ X, X = sumL (t :: catP ps) := ⟨_, rfl⟩
      rw [← hX] at hsum
      have HX : Hid (X = tagL t (catP ps)) := by show _ = _; rw [hX]; rfl
      have hXl : Hid (X.length = 32) := by rw [hX]; exact sumL_len _
      have HS : Hid ((Tryd.prog.info? 23).map (·.size) = some (X.map bv).toArray.size) := by rw [List.size_toArray, List.length_map, hXl.out]; exact size_hash
      clear hX
      go_wp2_with (first
        | (go_at_call 42; refine (hsum _ hr5).mono ?_; rintro e w6 ⟨rfl, hg6⟩)
        | (refine wpList_store_row rfl 23 _ _ rfl w.heap.size (X.map bv).toArray rfl rfl 23 (rowH []) (keep_of (keep_of hR.out hgn) hg6) HS.out (by rw [rowH_size _ (by simp), List.size_toArray, List.length_map, hXl.out]) (bv_all' _) ?_))
      refine bodyPost_ret (results_cell_row rfl _ _ w.heap.size 23 (X.map bv).toArray (0, 0) _ rfl (setRow_heap _ _ _ _ _ _ (keep_of (keep_of hR.out hgn) hg6)) Tryd.underlying23 rfl HS.out) rfl ?_
      exact ⟨by rw [HX.out], grown_setRow (grown_same hgw hg6) (.inr (Nat.le_refl _)) _⟩

end Go.Proofs.YtmfnncfiaaeknaaDoor
