/- The package's own root of a row; a store's Root. -/
import Derived.Test.YtjdfnohlgeoniaaDoorStD
import Derived.Test.YtjdfnohlgeoniaaDoorStK
import Derived.Test.YtjdfnohlgeoniaaDoorKI
namespace Go.Proofs.YtjdfnohlgeoniaaDoor
open Go.RowKit

theorem made_rows (n : Nat) : madeCells (Value.slice none 0 0).cells (n * 1) = (List.replicate n (Value.slice none 0 0)).toArray := by
  apply Array.ext'
  apply List.ext_getElem
  · simp [madeCells]
  · intro i h1 h2
    simp [madeCells, Value.cells, Nat.mod_one]
theorem make_rows (n : Nat) (h : n ≤ 1000) (w : World) : (Instr.makeSlice 64 (.int .i64 (n : Int)) (.int .i64 (n : Int))).run Tryd.prog w = .ok (.slice (some ⟨w.heap.size, 0, none⟩) n n) (w.alloc (.cells (List.replicate n (Value.slice none 0 0)).toArray 51)) := by
  obtain ⟨i, hi, hz, hs, hb⟩ := info_parts info_listT
  have := run_make (P := Tryd.prog) w 64 51 i (.slice none 0 0) Tryd.underlying64 hi hz .i64 .i64 (n : Int) (n : Int) (by omega) (by omega) (by rw [hb]; omega) (by omega)
  rw [hs, Int.toNat_natCast, made_rows] at this
  exact this
/-- A row of n lists, filled in order: so far. -/
def rowN' (n : Nat) (xs : List Value) : Array Value := (xs ++ List.replicate (n - xs.length) (Value.slice none 0 0)).toArray
theorem rowN'_next (n : Nat) (xs : List Value) (v : Value) (h : xs.length < n) : (rowN' n xs).setIfInBounds xs.length v = rowN' n (xs ++ [v]) := by
  unfold rowN'
  apply Array.ext'
  obtain ⟨k, hk⟩ : ∃ k, n - xs.length = k + 1 := ⟨n - xs.length - 1, by omega⟩
  rw [show n - (xs ++ [v]).length = k by rw [List.length_append, List.length_singleton]; omega, hk, List.replicate_succ]
  simp only [Array.toList_setIfInBounds]
  rw [List.set_append_right _ _ (Nat.le_refl _)]
  simp
theorem rowN'_get (n : Nat) (xs : List Value) (h : xs.length < n) : (rowN' n xs)[xs.length]? = some (Value.slice none 0 0) := by
  unfold rowN'
  obtain ⟨k, hk⟩ : ∃ k, n - xs.length = k + 1 := ⟨n - xs.length - 1, by omega⟩
  simp [hk, List.replicate_succ]
/-- Lists of the call's own, none of them in block G. -/
def Apt (w : World) (G : Nat) (qs : List Part) : Prop := ∀ q ∈ qs, OwnB w (pv q) q.2.1 ∧ (pv q).ownBlock ≠ some G
theorem Apt.kept {w w' : World} {G : Nat} {qs : List Part} (h : Apt w G qs) (hg : w.grownBy w' none) : Apt w' G qs := fun q hq => ⟨(h q hq).1.kept hg, (h q hq).2⟩
theorem Apt.over {w : World} {G i : Nat} {qs : List Part} {v : Value} (h : Apt w G qs) : Apt (w.setCell ⟨G, i, none⟩ v) G qs := fun q hq => ⟨(h q hq).1.keep (grown_set (grown_refl w (some G)) (.inl rfl) v) (.inr (h q hq).2), (h q hq).2⟩
theorem Apt.rd {w : World} {A : Option Addr} {G : Nat} {qs : List Part} (h : Apt w G qs) (hr : RdAt w A (qs.map pv)) : RdP w A qs := ⟨hr, fun q hq => by
  obtain ⟨A', c', e, -, -, hr'⟩ := (h q hq).1.slice
  have : q.1 = A' := by have := e; unfold pv at this; injection this
  rw [this]; exact hr'⟩

set_option maxRecDepth 100000 in
set_option maxHeartbeats 2000000 in
theorem SRoot_any (A : Option Addr) (c : Nat) (ps : List Kv) (w : World) (hr : RdQ w A ps) (hright : rightL ps = true) (hk : Laid2 w) :
    Calls Tryd.prog 27 #[.slice A ps.length c] w fun e w' => e = .returned (.agg ((storeRootL ps).map bv).toArray) ∧ w.grownBy w' none := by
  obtain ⟨hn, hmay, -⟩ := (right_iff _).1 hright
  have hs : ∀ p ∈ ps, p.1.length ≤ 100 ∧ p.2.length ≤ 100 := fun p hp => by
    have := of_decide_eq_true (show decide _ = true from hmay p hp)
    omega
  clear hmay hright
  obtain ⟨n, hnn⟩ : ∃ n, n = ps.length := ⟨_, rfl⟩
  have hmk := fun W => make_rows n (by omega) W
  obtain ⟨C0, hC0⟩ : ∃ C : Array Value, C = (List.replicate n (.slice none 0 0)).toArray := ⟨_, rfl⟩
  rw [← hC0] at hmk
  rw [← hnn] at hn
  have HN := Lib.hid hnn
  have hC0' := Lib.hid hC0
  rw [← hnn]
  clear hC0 hnn
  go_enter Tryd.func27, Tryd.ntmps27
  go_wp2_with fail
  generalize hW : World.alloc (World.alloc w _) _ = W
  have hbL : Hid (W.heap[w.heap.size + 1]? = some (.cells (rowN' n []) 51 (0, 0))) := by
    show _ = _
    rw [← hW, hC0'.out]
    exact alloc_at (by simp)
  have hbR : ∃ C, C.size = 32 ∧ W.heap[w.heap.size]? = some (.cells C 40 (0, 0)) := by rw [← hW]; exact ⟨_, rfl, alloc_old (alloc_at rfl)⟩
  have hgW : w.grownBy W none := by rw [← hW]; exact grown_alloc (grown_alloc (grown_refl _ _) _) _
  obtain ⟨CR, hCR, hbR⟩ := hbR
  clear hW hmk hC0'
  go_loopw [12] (fun i wz => ∃ (k : Nat) (qs : List Part), k ≤ n ∧ i = .int .i64 k ∧ Hid (qs.length = k) ∧ Hid (wz.heap[w.heap.size + 1]? = some (.cells (rowN' n (qs.map pv)) 51 (0, 0))) ∧ Hid (leavesOf qs = leavesL (ps.take k)) ∧ Apt wz (w.heap.size + 1) qs ∧ w.grownBy wz none ∧ Hid (wz.heap[w.heap.size]? = some (.cells CR 40 (0, 0)))) (fun i _ => n - (intOf i).toNat)
  case atStart => exact ⟨0, [], Nat.zero_le _, rfl, rfl, hbL.out, rfl, (fun q hq => by cases hq), hgW, hbR⟩
  case round =>
    obtain ⟨k, qs, hkn, rfl, hqk, hqz, hql, hap, hgn, hbz⟩ := hrel
    clear hbL hbR
    by_cases hlt : k < n
    · have hltp : k < ps.length := by have := HN.out; omega
      obtain ⟨ad, rfl, hc⟩ := RdQ.at (hr.kept hgn) hltp
      have hsj := hs _ (List.getElem_mem hltp)
      have hnx := Lib.hid (leavesL_next hltp)
      generalize ps[k] = y at *
      have HC := Lib.hid hc
      clear hc
      have hb : ∀ W : World, (wr.alloc (Obj.cells #[Value.string ⟨y.1.toArray⟩, Value.string ⟨y.2.toArray⟩] 29)).grownBy W none → AtQ W ⟨wr.heap.size, 0, none⟩ y := fun W h => box_at h
      have hb0 := hb _ (grown_refl _ _)
      have hlen : (qs.map pv).length = k := by rw [List.length_map, hqk.out]
      have hltG : w.heap.size + 1 < wr.heap.size := (Array.getElem?_eq_some_iff.1 hqz.out).1
      have hkI : (k : Int) < (n : Int) := by omega
      go_wp2_with (first
        | (refine wpList_load_kv (by rfl) _ rfl (ad.add (k * 2)) rfl y HC.out ?_)
        | (refine wpList_load_kv (by rfl) _ rfl ⟨wr.heap.size, 0, none⟩ rfl y hb0 ?_)
        | (go_at_call 40; refine (Leaf_any y _ (by omega) (by omega)).mono ?_; rintro e wa ⟨va, rfl, hoa, hga, hfa⟩; have hgA := grown_none (grown_alloc (grown_refl wr none) _) hga; obtain ⟨Ae, ce, e1, -⟩ := hoa.slice; subst e1; have hzA := keep_of hqz.out hgA; have hcell : wa.cell? ⟨w.heap.size + 1, k, none⟩ = some (.slice none 0 0) := (by rw [cell_of_row _ _ _ _ _ _ hzA, ← hlen]; exact rowN'_get n _ (by omega)); have hfro : wa.frozen? ⟨w.heap.size + 1, k, none⟩ = false := frozen_of_row _ _ _ _ _ hzA))
      go_roundw
      case rel =>
        have hnA := (hoa.lt : ∀ g, _)
        have hGa : w.heap.size + 1 < wa.heap.size := Nat.lt_of_lt_of_le hltG hgA.size
        have hap2 : Apt wa (w.heap.size + 1) (qs ++ [(Ae, leafL y, ce)]) := fun q hq => by
          rcases List.mem_append.1 hq with hq | hq
          · exact (hap.kept hgA) q hq
          · rw [List.mem_singleton.1 hq]
            refine ⟨hoa, fun e => ?_⟩
            have := hfa _ e
            simp at this
            omega
        refine ⟨k + 1, qs ++ [(Ae, leafL y, ce)], by omega, by go_num, ?_, ?_, ?_, hap2.over, grown_set (grown_none hgn hgA) (.inr (by simp)) _, ?_⟩
        · show _ = _; rw [List.length_append, hqk.out]; rfl
        · show _ = _
          have h := heap_setCell_same wa (w.heap.size + 1) k _ _ (.slice Ae (leafL y).length ce) hzA
          rw [h, List.map_append, List.map_singleton]
          have h2 := rowN'_next n (qs.map pv) (pv (Ae, leafL y, ce)) (by omega)
          rw [hlen] at h2
          rw [← h2]; rfl
        · show _ = _
          rw [hnx.out, ← hql.out]; unfold leavesOf; rw [List.map_append]; rfl
        · exact (Below.heap_setCell wa ⟨w.heap.size + 1, k, none⟩ _ w.heap.size (by simp)).trans (keep_of hbz.out hgA)
      case measure => simp [intOf]; omega
    · obtain rfl : k = n := by omega
      have hlv : leavesOf qs = leavesL ps := by rw [hql.out, HN.out, List.take_length]
      have hrow : RdAt wr (some ⟨w.heap.size + 1, 0, none⟩) (qs.map pv) := by
        have h := hqz.out
        unfold rowN' at h
        rw [List.length_map, hqk.out, Nat.sub_self, List.replicate_zero, List.append_nil] at h
        exact rd_row h
      have hrd := hap.rd hrow
      have hRt := fun W (hg : wr.grownBy W none) => Root_any k (some ⟨w.heap.size + 1, 0, none⟩) qs k W hqk.out (Nat.le_refl _) (by omega) (leaves_le hlv hs) (hk.kept (grown_none hgn hg)) (hrd.kept hg)
      rw [hlv] at hRt
      obtain ⟨X1, hX1⟩ : ∃ X1, X1 = rootL (leavesL ps) := ⟨_, rfl⟩
      have hX1l : Hid (X1.length = 32) := by rw [hX1]; exact rootL_len _
      rw [← hX1] at hRt
      have HX : Hid (boundL k X1 = storeRootL ps) := by show _ = _; rw [hX1, HN.out]; rfl
      clear hX1 hql hrow hlv hs hr hqz
      have hput : ∀ W A1, RdI W A1 [(k : Int)] → Calls Tryd.prog 43 #[.slice A1 1 1] W fun e w' => ∃ A c, e = .returned (.slice A (putL k).length c) ∧ RdB w' A (putL k) ∧ W.grownBy w' none := fun W A1 h => (Put_any A1 1 [(k : Int)] W h (by simp)).mono (by
        rintro e w' ⟨v, rfl, ho, hg⟩
        have e1 : putsL [(k : Int)] = putL k := by simp [putsL]
        rw [e1] at ho
        obtain ⟨A, c, rfl, -, -, hr⟩ := ho.slice
        exact ⟨A, c, rfl, hr, hg.nil⟩)
      go_upto_region 8 with (first
        | (go_at_call 41; refine (hRt _ (grown_refl _ _)).mono ?_; rintro e w5 ⟨rfl, hg5⟩)
        | (refine wpList_store_row rfl 40 _ _ rfl w5.heap.size (X1.map bv).toArray rfl rfl 40 _ (alloc_at rfl) (hashV_size X1 hX1l.out) (by rw [show (X1.map bv).toArray.size = 32 from by rw [List.size_toArray, List.length_map, hX1l.out]]; rfl) (bv_all' _) ?_; generalize hV : World.setRow _ w5.heap.size _ = V; have HV := new_hash hV; clear hV))
      have hgV : wr.grownBy V none := grown_none hg5 HV.2
      have hgVD : w.grownBy V.drew none := grown_drew (grown_none hgn hgV)
      have hb : V.drew.heap[w5.heap.size]? = some (.cells (X1.map bv).toArray 40 (0, 0)) := HV.1
      have hbR : V.drew.heap[w.heap.size]? = some (.cells CR 40 (0, 0)) := keep_of hbz.out (grown_drew hgV)
      have hkV : ∀ w', V.drew.grownBy w' none → Laid2 w' := fun w' h => hk.kept (grown_none hgVD h)
      have hpl := putL_len (k : Int)
      have h32 := hX1l.out
      obtain ⟨X, hX⟩ : ∃ X, X = boundL k X1 := ⟨_, rfl⟩
      have hXl : Hid (X.length = 32) := by rw [hX]; exact boundL_len _ _
      have htag : ∀ (A1 : Option Addr) (c1 : Nat) (A : Option Addr) w', RdP w' A [(A1, putL k, c1), (some ⟨w5.heap.size, 0, none⟩, X1, 32)] → V.drew.grownBy w' none → Calls Tryd.prog 42 #[.int .u8 83, .slice A 2 2] w' fun e w2 => e = .returned (.agg (X.map bv).toArray) ∧ w'.grownBy w2 none := fun A1 c1 A w' h3 hv => by
        have h := Tagged_any 83 A [(A1, putL k, c1), (some ⟨w5.heap.size, 0, none⟩, X1, 32)] 2 w' (hkV w' hv).1 (hkV w' hv).2 h3 (by simp [catP]; omega) (by simp)
        rw [show tagL 83 (catP [(A1, putL k, c1), (some ⟨w5.heap.size, 0, none⟩, X1, 32)]) = X by rw [hX]; simp [catP, boundL]] at h
        exact h
      obtain ⟨L, hL⟩ : ∃ L, L = (putL (k : Int)).length := ⟨_, rfl⟩
      have hrdp : ∀ (A1 : Option Addr) (c1 : Nat) w' A (C1 : Array Value), RdB w' A1 (putL k) → w'.heap[w5.heap.size]? = some (.cells C1 40 (0, 0)) → C1 = (X1.map bv).toArray → RdAt w' A [.slice A1 L c1, .slice (some ⟨w5.heap.size, 0, none⟩) 32 32] → RdP w' A [(A1, putL k, c1), (some ⟨w5.heap.size, 0, none⟩, X1, 32)] := fun A1 c1 w' A C1 h0 h1 e1 h3 => ⟨by rw [hL] at h3; simpa [pv, h32] using h3, fun q hq => by
        subst e1
        simp only [List.mem_cons, List.not_mem_nil, or_false] at hq
        rcases hq with rfl | rfl
        · exact h0
        · exact rd_row h1⟩
      rw [← hL] at hput
      have HX' : Hid (X = storeRootL ps) := hX.trans HX.out
      have hst : ∀ w', w'.heap[w.heap.size]? = some (.cells CR 40 (0, 0)) → Sem.run Tryd.prog (storeCells ⟨w.heap.size, 0, none⟩ (X.map bv)) w' = .ok () (w'.setRow w.heap.size (X.map bv).toArray) := fun w' h => by
        have := run_storeCells_from (P := Tryd.prog) w.heap.size 40 (X.map bv) 0 CR w' h (by rw [List.length_map, hXl.out, hCR]) (fun x hx => by obtain ⟨b, -, rfl⟩ := List.mem_map.1 hx; rfl)
        simpa using this
      obtain ⟨VA, hVA⟩ : ∃ VA, VA = (V.alloc (.cells #[.int .i64 (k : Int)] 3)).drew := ⟨_, rfl⟩
      have hput0 := hput VA (some ⟨V.heap.size, 0, none⟩) (by rw [hVA]; exact rd_row (w := (V.alloc _).drew) (cs := [.int .i64 (k : Int)]) (t := 3) (fr := (0, 0)) (alloc_at rfl))
      have hgVA : V.drew.grownBy VA none := by rw [hVA]; exact ⟨rfl, rfl, rfl, by simp, fun i hi _ => (alloc_old (w := V) (Array.getElem?_eq_getElem hi)).trans (Array.getElem?_eq_getElem hi).symm⟩
      have hbA := keep_of hb hgVA
      have hbRA := keep_of hbR hgVA
      rw [hVA] at hput0
      replace hVA := Lib.hid hVA
      clear hX hL h32 hpl HV hbz hRt hrd hap hqk hkn hlt hkV HN hgW hput
      change Code.wp _ _ _ { tmps := _, defers := [] } V
      go_region_with (first
        | (go_at_call 43; refine hput0.mono ?_; rintro e w6 ⟨A1, c1, rfl, hr1, hg6⟩; rw [← hVA.out] at hg6)
        | (go_at_call 42; refine (htag A1 c1 _ _ (hrdp _ _ _ _ _ (hr1.kept (grown_alloc (grown_refl _ _) _)) (alloc_old (keep_of hbA hg6)) rfl (rd_row (cs := [_, _]) (alloc_at (by simp)))) (grown_alloc (grown_none hgVA hg6) _)).mono ?_; rintro e w7 ⟨rfl, hg7⟩; have hb7 := keep_of (alloc_old (o' := .cells #[.slice A1 L c1, .slice (some ⟨w5.heap.size, 0, none⟩) 32 32] 51) (keep_of hbRA hg6)) hg7; have hst7 := hst _ hb7))
      all_goals
        clear hst hst7 htag hrdp hput0
        go_wp2
        refine bodyPost_ret (results_cell_row rfl _ _ w.heap.size 40 (X.map bv).toArray (0, 0) _ rfl (setRow_heap _ _ _ _ _ _ hb7) Tryd.underlying40 rfl (hashV_size X hXl.out)) rfl ?_
        exact ⟨by rw [HX'.out], grown_setRow (grown_none (grown_alloc (grown_none (grown_none hgVD hgVA) hg6) _) hg7) (.inr (Nat.le_refl _)) _⟩

set_option maxRecDepth 100000 in
set_option maxHeartbeats 1000000 in
theorem MRoot_any {w : World} {g : Nat} {B R : Nat → Prop} {s : Vers} (h : Int) (hs : SA w g B R s) (hk : Laid2 w) (hb : -1000 ≤ h ∧ h ≤ 1000) :
    Calls Tryd.prog 20 #[sptr g, .int .i64 h] w fun e w' => e = .returned (.tuple #[.agg ((s.rootAt h).map bv).toArray, .bool (s.at? h).isSome]) ∧ w.grownBy w' none := by
  have hv := fun W (hg : w.grownBy W none) => version_any (w := W) h (show SA W g B R s by obtain ⟨A, c, kv, rs, x⟩ := hs; exact ⟨A, c, kv, rs, x.kept hg⟩) hb
  have hri : ∀ l, s.at? h = some l → rightL l = true := fun l hl => by
    obtain ⟨A, c, kv, rs, x⟩ := hs
    unfold Vers.at? at hl
    split at hl
    · exact x.ri.2.2 l (List.mem_of_getElem? hl)
    · cases hl
  have hro : s.rootAt h = match s.at? h with | some l => storeRootL l | none => List.replicate 32 0 := rfl
  rw [hro]
  clear hs hro
  unfold sptr at hv ⊢
  cases hq : s.at? h with
  | none =>
    rw [hq] at hv
    have hv0 := hv _ (grown_alloc (grown_refl w none) (.cells (rowH []) 40))
    clear hv hri
    have hsz : Hid ((Tryd.prog.info? 40).map (·.size) = some (rowH []).size) := by show _ = _; rw [rowH_size _ (by simp)]; exact size_hash
    have hal : Hid ((rowH []).all (·.oneCell') = true) := by show _ = _; rw [rowZ]; exact bv_all' _
    show Calls _ _ _ _ fun e w' => e = .returned (.tuple #[.agg (zeroH.map bv).toArray, .bool false]) ∧ w.grownBy w' none
    rw [← rowZ]
    go_enter Tryd.func20, Tryd.ntmps20
    go_wp2_with (first
      | (go_at_call 35; refine hv0.mono ?_; rintro e w1 ⟨A, c, n, rfl, hn, hnc, hr1, hg1⟩; have HN := Lib.hid hn; clear hn)
      | (refine wpList_store_row rfl 40 _ _ rfl (w.heap.size) (rowH []) rfl rfl 40 (rowH []) (keep_of (alloc_at rfl) hg1) hsz.out rfl hal.out ?_))
    refine bodyPost_ret (results_row_tmp rfl _ _ (w.heap.size) 40 (rowH []) (0, 0) _ rfl (setRow_heap _ _ _ _ _ _ (keep_of (alloc_at rfl) hg1)) Tryd.underlying40 rfl hsz.out) rfl ?_
    exact ⟨rfl, grown_setRow (grown_none (grown_alloc (grown_refl _ _) _) hg1) (.inr (by omega)) _⟩
  | some l =>
    rw [hq] at hv
    have hrl := hri l hq
    have hv0 := hv _ (grown_alloc (grown_refl w none) (.cells (rowH []) 40))
    obtain ⟨X, hX⟩ : ∃ X, X = storeRootL l := ⟨_, rfl⟩
    have hXl : Hid (X.length = 32) := by rw [hX]; exact boundL_len _ _
    have hS := fun A c n W (hn : n = l.length) (hr : RdQ W A l) (hk : Laid2 W) => (by subst hn; rw [hX]; exact SRoot_any A c l W hr hrl hk : Calls Tryd.prog 27 #[.slice A n c] W fun e w' => e = .returned (.agg (X.map bv).toArray) ∧ W.grownBy w' none)
    have HX := Lib.hid hX
    clear hv hri hX
    go_enter Tryd.func20, Tryd.ntmps20
    go_wp2_with (first
      | (go_at_call 35; refine hv0.mono ?_; rintro e w1 ⟨A, c, n, rfl, hn, hnc, hr1, hg1⟩; have HN := Lib.hid hn; clear hn)
      | (go_at_call 27; refine (hS A c n _ HN.out hr1 (hk.kept (grown_none (grown_alloc (grown_refl _ _) _) hg1))).mono ?_; rintro e w2 ⟨rfl, hg2⟩)
      | (refine wpList_store_row rfl 40 _ _ rfl (w.heap.size) (X.map bv).toArray rfl rfl 40 _ (keep_of (keep_of (alloc_at rfl) hg1) hg2) (hashV_size X hXl.out) (by rw [show (X.map bv).toArray.size = 32 from by rw [List.size_toArray, List.length_map, hXl.out]]; rfl) (bv_all' _) ?_))
    refine bodyPost_ret (results_row_tmp rfl _ _ (w.heap.size) 40 (X.map bv).toArray (0, 0) _ rfl (setRow_heap _ _ _ _ _ _ (keep_of (keep_of (alloc_at rfl) hg1) hg2)) Tryd.underlying40 rfl (hashV_size X hXl.out)) rfl ?_
    exact ⟨by rw [← HX.out]; rfl, grown_setRow (grown_none (grown_none (grown_alloc (grown_refl _ _) _) hg1) hg2) (.inr (by omega)) _⟩
end Go.Proofs.YtjdfnohlgeoniaaDoor
