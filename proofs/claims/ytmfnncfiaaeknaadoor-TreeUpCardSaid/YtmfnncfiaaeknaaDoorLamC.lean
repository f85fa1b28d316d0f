/- Rows in rows: cells written in the midst of a block, an array's part, a key of all public parts; the program's and the document's own. -/
import Derived.Test.YtmfnncfiaaeknaaDoorLamB
namespace Go.Proofs.YtmfnncfiaaeknaaDoor
open Go.RowKit

theorem heap_setCells {b : Nat} {t : TypeId} : ∀ (vs pre old post : List Value) (w : World), old.length = vs.length → w.heap[b]? = some (.cells (pre ++ (old ++ post)).toArray t (0, 0)) → (w.setCells b pre.length vs).heap[b]? = some (.cells (pre ++ (vs ++ post)).toArray t (0, 0))
  | [], pre, old, post, w, hl, h => by
    have : old = [] := List.eq_nil_of_length_eq_zero hl
    subst this
    exact h
  | v :: r, pre, [], post, w, hl, h => by simp at hl
  | v :: r, pre, x :: old, post, w, hl, h => by
    rw [World.setCells]
    have := heap_setCells (b := b) (t := t) r (pre ++ [v]) old post (w.setCell ⟨b, pre.length, none⟩ v) (by simpa using hl) (heap_setCell_to h (by
      apply Array.ext'
      simp))
    rw [List.length_append, List.length_singleton] at this
    simpa using this
theorem grown_setCells {w : World} {row : Option Nat} {b : Nat} (hb : some b = row ∨ w.heap.size ≤ b) : ∀ (vs : List Value) (o : Nat) (w' : World), w.grownBy w' row → w.grownBy (w'.setCells b o vs) row
  | [], _, _, h => h
  | v :: r, o, w', h => by
    rw [World.setCells]
    exact grown_setCells hb r (o + 1) _ (grown_set h (p := ⟨b, o, none⟩) hb v)
theorem range_of_row {w : World} {b : Nat} {X : List UInt8} {t : TypeId} {fr : Nat × Nat} (h : w.heap[b]? = some (.cells (X.map bv).toArray t fr)) : w.rangeAt b 0 (X.map bv) := fun j v hv => by
  rw [cell_of_row w b (0 + j) _ t fr h, Nat.zero_add]
  simpa using hv
theorem info_hash (X : List UInt8) (h : X.length = 32) : (Tryd.prog.info? 23).map (·.size) = some (X.map bv).length := by rw [List.length_map, h]; exact size_hash
theorem there_of {w : World} {b o n : Nat} {C : Array Value} {t : TypeId} (h : w.heap[b]? = some (.cells C t (0, 0))) (hn : o + n ≤ C.size) : w.there b o n := fun j hj => by
  rw [cell_of_row w b (o + j) C t (0, 0) h]
  exact ⟨by rw [Array.getElem?_eq_getElem (by omega)]; rfl, frozen_of_row _ _ _ _ _ h⟩
theorem other_setCells {b g : Nat} (hne : g ≠ b) : ∀ (vs : List Value) (o : Nat) (w : World), (w.setCells b o vs).heap[g]? = w.heap[g]?
  | [], _, _ => rfl
  | v :: r, o, w => by
    rw [World.setCells, other_setCells hne r (o + 1)]
    exact Below.heap_setCell w ⟨b, o, none⟩ v g (by simpa using hne)

/-- A row's part of an array of rows. -/
theorem run_index_part {P : Program} (w : World) (t e f : TypeId) (n m sz i : Nat) (cs : Array Value) (ht : P.underlying t = some (.array n e)) (he : P.underlying e = some (.array m f)) (hs : (P.info? e).map (·.size) = some sz) (hi : i < n) :
    (Instr.index t (.agg cs) (.int .i64 (i : Int))).run P w = .ok (.agg (cs.extract (i * sz) (i * sz + sz))) w := by
  obtain ⟨ii, hq, hsz⟩ := Option.map_eq_some_iff.1 hs
  have hagg : (isAgg e).run P w = .ok true w := by
    unfold isAgg
    rw [Sem.run_bind, run_underlying he w]
    simp
  have h1 : (0 : Int) ≤ (i : Int) ∧ (i : Int) < (n : Int) := ⟨by omega, by omega⟩
  simp [Instr.index, asIntOf, Sem.run_bind, run_underlying ht w, part, hagg, sizeOf, typeInfo, hq, hsz, h1]
  intro h; omega
theorem bytes_part (L : List UInt8) (a n : Nat) : (L.map bv).toArray.extract a (a + n) = (((L.drop a).take n).map bv).toArray := by
  simp [List.map_take, List.map_drop]

theorem size_pair : (Tryd.prog.info? 53).map (·.size) = some 64 := by kernel_rfl
theorem size_publics : (Tryd.prog.info? 55).map (·.size) = some 2048 := by kernel_rfl
theorem index_pair (L : List UInt8) (k : Nat) (hk : k < 32) (w : World) : (Instr.index 55 (.agg (L.map bv).toArray) (.int .i64 (k : Int))).run Tryd.prog w = .ok (.agg (((L.drop (k * 64)).take 64).map bv).toArray) w := by
  rw [run_index_part (P := Tryd.prog) w _ _ _ _ _ _ k _ Tryd.underlying55 Tryd.underlying53 size_pair hk, bytes_part]
theorem index_hash (L : List UInt8) (k : Nat) (hk : k < 2) (w : World) : (Instr.index 53 (.agg (L.map bv).toArray) (.int .i64 (k : Int))).run Tryd.prog w = .ok (.agg (((L.drop (k * 32)).take 32).map bv).toArray) w := by
  rw [run_index_part (P := Tryd.prog) w _ _ _ _ _ _ k _ Tryd.underlying53 Tryd.underlying23 size_hash hk, bytes_part]
theorem make_row (w : World) : (Instr.makeSlice 24 (.int .i64 0) (.int .i64 2048)).run Tryd.prog w = .ok (.slice (some ⟨w.heap.size, 0, none⟩) 0 2048) (w.alloc (.cells (List.replicate 2048 (Value.int .u8 0)).toArray 5)) := by
  obtain ⟨i, hi, hz, hs, hb⟩ := info_parts info_u8
  have := run_make (P := Tryd.prog) w 24 5 i (.int .u8 0) Tryd.underlying24 hi hz .i64 .i64 0 2048 (by omega) (by omega) (by rw [hb]; decide) (by omega)
  rw [hs, show (2048 : Int).toNat = 2048 from rfl, made_bytes] at this
  exact this
theorem load_pair (w : World) (g : Nat) (x : List UInt8) (t : TypeId) (fr : Nat × Nat) (hx : x.length = 64) (hg : w.heap[g]? = some (.cells (x.map bv).toArray t fr)) :
    (Instr.loadAt 53 (.pointer (some ⟨g, 0, none⟩))).run Tryd.prog w = .ok (.agg (x.map bv).toArray) w := by
  have h := run_loadVar_row (P := Tryd.prog) w g t 53 (x.map bv).toArray fr _ hg Tryd.underlying53 rfl (by rw [List.size_toArray, List.length_map, hx]; exact size_pair)
  simp only [Instr.loadAt, Instr.sureAddr, Sem.run_bind, Sem.run_pure, Result.andThen_ok, h]

set_option maxRecDepth 100000 in
set_option maxHeartbeats 2000000 in
theorem keyOf_any (L : List UInt8) (hL : L.length = 2048) (w : World) (hk : Laid2 w) :
    Calls Tryd.prog 29 #[.agg (L.map bv).toArray] w fun e w' => e = .returned (.agg ((tagL 107 L).map bv).toArray) ∧ w.grownBy w' none := by
  have hsz : Hid ((Tryd.prog.info? 55).map (·.size) = some (L.map bv).toArray.size) := by show _ = _; rw [List.size_toArray, List.length_map, hL]; exact size_publics
  have HL := Lib.hid hL
  clear hL
  obtain ⟨C, hC⟩ : ∃ C, C = (List.replicate 2048 (Value.int .u8 0)) := ⟨_, rfl⟩
  have hmk := fun w' => make_row w'
  rw [← hC] at hmk
  have HC := Lib.hid hC
  clear hC
  go_enter Tryd.func29, Tryd.ntmps29
  go_wp2_with (refine wpList_load_row rfl 55 _ rfl w.heap.size rfl _ (L.map bv).toArray (0, 0) _ (alloc_old (alloc_old (alloc_at rfl))) Tryd.underlying55 rfl hsz.out ?_)
  have hR : Hid (((w.alloc (.cells (L.map bv).toArray 55)).alloc (.cells (rowH []) 23)).heap[w.heap.size + 1]? = some (.cells (rowH []) 23 (0, 0))) := alloc_at (by simp)
  have hg : w.grownBy ((w.alloc (.cells (L.map bv).toArray 55)).alloc (.cells (rowH []) 23)) none := grown_alloc (grown_alloc (grown_refl _ _) _) _
  have hs1 : ((w.alloc (.cells (L.map bv).toArray 55)).alloc (.cells (rowH []) 23)).heap.size = w.heap.size + 1 + 1 := by simp
  change Code.wp _ _ _ _ (((w.alloc (.cells (L.map bv).toArray 55)).alloc (.cells (rowH []) 23)).alloc (.cells C.toArray 5))
  generalize (w.alloc (.cells (L.map bv).toArray 55)).alloc (.cells (rowH []) 23) = w1 at hR hg hs1 ⊢
  have ho : OwnB (w1.alloc (.cells C.toArray 5)) (.slice (some ⟨w.heap.size + 1 + 1, 0, none⟩) 0 2048) (L.take (0 * 64)) := by
    rw [← hs1]
    exact ownB_of (heap_alloc_new _ _) (by simp) (by simp) (by rw [HC.out]; simp) (by omega) (by unfold maxLen; omega)
  have hgr : Grew w1 (w1.alloc (.cells C.toArray 5)) (.slice none 0 0) (.slice (some ⟨w.heap.size + 1 + 1, 0, none⟩) 0 2048) :=
    ⟨grown_alloc (grown_refl _ _) _, .inr ⟨_, rfl, by rw [hs1]; exact Nat.le_refl _⟩⟩
  clear hs1 hmk
  generalize w1.alloc (.cells C.toArray 5) = w2 at ho hgr ⊢
  go_loopw [3, 10] (fun x i wz => ∃ k : Nat, k ≤ 32 ∧ i = .int .i64 k ∧ OwnB wz x (L.take (k * 64)) ∧ Grew w1 wz (.slice none 0 0) x) (fun _ i _ => 32 - (intOf i).toNat)
  case atStart => exact ⟨0, by omega, rfl, ho, hgr⟩
  case round =>
    clear ho hgr
    obtain ⟨k, hkl, rfl, ho, hgr⟩ := hrel
    by_cases hlt : k < 32
    · have hlt' : (k : Int) < 32 := by omega
      have hix := fun w' => index_pair L k hlt w'
      obtain ⟨l, hl⟩ : ∃ l, l = (L.drop (k * 64)).take 64 := ⟨_, rfl⟩
      rw [← hl] at hix
      have hll : Hid (l.length = 64) := by show _ = _; rw [hl, List.length_take, List.length_drop, HL.out]; omega
      have hlc : Hid (∀ v, v ≤ 64 → L.take (k * 64 + v) = L.take (k * 64) ++ l.take v) := fun v hv => by
        rw [hl, List.take_take, Nat.min_eq_left hv, List.take_add]
      clear hl
      go_wp2_with (first
        | (refine wpList_store_row rfl 53 _ _ rfl (wr.heap.size) (l.map bv).toArray rfl rfl 53 _ (alloc_at rfl) (by rw [List.size_toArray, List.length_map, hll.out]; exact size_pair) (by rw [show (l.map bv).toArray.size = 64 from by rw [List.size_toArray, List.length_map, hll.out]]; rfl) (bv_all' _) ?_; generalize hw3 : World.setRow _ _ _ = w3; have HW3 := new_hash hw3; clear hw3)
        | (refine wpList_load_row rfl 53 _ rfl wr.heap.size rfl _ (l.map bv).toArray (0, 0) _ HW3.1 Tryd.underlying53 rfl (by rw [List.size_toArray, List.length_map, hll.out]; exact size_pair) ?_))
      have hgn := hgr.nil
      have ho3 : OwnB w3 u3 (L.take (k * 64) ++ l.take (0 * 32)) := by simpa using ho.kept HW3.2
      have hgr3 : Grew w1 w3 (.slice none 0 0) u3 := hgr.post HW3.2
      clear ho hgr HW3
      go_loopw [3, 14] (fun x i wz => ∃ v : Nat, v ≤ 2 ∧ i = .int .i64 v ∧ OwnB wz x (L.take (k * 64) ++ l.take (v * 32)) ∧ Grew w1 wz (.slice none 0 0) x) (fun _ i _ => 2 - (intOf i).toNat)
      case atStart => exact ⟨0, by omega, rfl, ho3, hgr3⟩
      case round =>
        clear ho3 hgr3
        obtain ⟨v, hvl, rfl, ho, hgr⟩ := hrel
        by_cases hv2 : v < 2
        · have hv2' : (v : Int) < 2 := by omega
          have hiy := fun w' => index_hash l v hv2 w'
          obtain ⟨y, hy⟩ : ∃ y, y = (l.drop (v * 32)).take 32 := ⟨_, rfl⟩
          rw [← hy] at hiy
          have hyl : Hid (y.length = 32) := by show _ = _; rw [hy, List.length_take, List.length_drop, hll.out]; omega
          have hyc : Hid (l.take ((v + 1) * 32) = l.take (v * 32) ++ y) := by show _ = _; rw [hy, Nat.add_mul, Nat.one_mul, List.take_add]
          have hb : Hid ((L.take (k * 64) ++ l.take (v * 32)).length + y.length ≤ 140737488355328) := by
            show _ ≤ _
            rw [List.length_append, List.length_take, List.length_take, HL.out, hll.out, hyl.out]; omega
          clear hy
          go_wp2_with (first
            | (refine wpList_store_row rfl 23 _ _ rfl (wr.heap.size) (y.map bv).toArray rfl rfl 23 _ (alloc_at rfl) (hashV_size y hyl.out) (by rw [show (y.map bv).toArray.size = 32 from by rw [List.size_toArray, List.length_map, hyl.out]]; rfl) (bv_all' _) ?_; generalize hw4 : World.setRow _ _ _ = w4; have HW4 := new_hash hw4; clear hw4; have ho4 := ho.kept HW4.2; have hry := rd_row HW4.1)
            | (at_builtin; refine wpList_appB (v := u3) _ rfl _ _ rfl rfl ho4 (news := y) rfl hyl.out.symm hry hb.out ?_; intro v6 w6 ho6 hgr6))
          go_roundw
          case rel =>
            refine ⟨v + 1, by omega, by go_num, ?_, (hgr.post HW4.2).trans hgr6⟩
            rw [hyc.out, ← List.append_assoc]
            exact ho6
          case measure => simp [intOf]; omega
        · have hvv : v = 2 := by omega
          subst hvv
          rw [show ((2 : Nat) : Int) = 2 from rfl]
          go_wp2
          go_roundw
          case rel =>
            refine ⟨k + 1, by omega, by go_num, ?_, hgr⟩
            rw [Nat.add_mul, hlc.out (1 * 64) (by omega)]
            exact ho
          case measure => simp [intOf]; omega
    · have hkk : k = 32 := by omega
      subst hkk
      rw [List.take_of_length_le (by rw [HL.out]; omega)] at ho
      obtain ⟨A5, c5, rfl, hc5, hm5, hr5⟩ := ho.slice
      have hgn := hgr.nil
      have htag := fun A w' (h1 : Laid2 w') (h3 : RdP w' A [(A5, L, c5)]) => Tagged_any 107 A [(A5, L, c5)] 1 w' h1.1 h1.2 h3 (by simp [catP, HL.out]) (by simp)
      obtain ⟨X, hX⟩ : ∃ X, X = tagL 107 (catP [(A5, L, c5)]) := ⟨_, rfl⟩
      rw [← hX] at htag
      have HX : Hid (X = tagL 107 L) := by show _ = _; rw [hX]; simp [catP]
      have hXl : Hid (X.length = 32) := by rw [hX]; exact tagL_len _ _
      clear hX
      change ∀ A w', Laid2 w' → RdP w' A _ → Calls Tryd.prog 38 #[.int .u8 107, .slice A 1 1] w' _ at htag
      have hR2 := keep_of hR.out (grown_alloc hgn (.cells #[.slice A5 L.length c5] 24))
      have hgw := grown_same hg hgn
      go_wp2_with (first
        | (go_at_call 38; refine (htag _ _ (hk.kept (grown_alloc hgw _)) (rdP_kept1 (rd_row (cs := [_]) (alloc_at rfl)) (hr5.alloc _))).mono ?_; rintro e w6 ⟨rfl, hg6⟩)
        | (refine wpList_store_row rfl 23 _ _ rfl (w.heap.size + 1) (X.map bv).toArray rfl rfl 23 _ (keep_of hR2 hg6) (hashV_size X hXl.out) (by rw [rowH_size _ (by simp), List.size_toArray, List.length_map, hXl.out]) (bv_all' _) ?_))
      refine bodyPost_ret (results_cell_row rfl _ _ (w.heap.size + 1) 23 (X.map bv).toArray (0, 0) _ rfl (setRow_heap _ _ _ _ _ _ (keep_of hR2 hg6)) Tryd.underlying23 rfl (hashV_size X hXl.out)) rfl ?_
      exact ⟨by rw [HX.out], grown_setRow (grown_same (grown_alloc hgw _) hg6) (.inr (by omega)) _⟩
end Go.Proofs.YtmfnncfiaaeknaaDoor
