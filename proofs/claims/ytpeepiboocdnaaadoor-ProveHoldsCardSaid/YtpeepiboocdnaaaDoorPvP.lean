/- The package's own calls, part 1: places, is a key there, the paths. -/
import Derived.Test.YtpeepiboocdnaaaDoorPvG
import Derived.Test.YtpeepiboocdnaaaDoorKM
namespace Go.Proofs.YtpeepiboocdnaaaDoor
open Go.RowKit

theorem cut_any (A : Option Addr) (c n : Nat) (t : Int) (h1 : -1000 ≤ t) (h2 : t ≤ 1000) (hn : n ≤ 1000) (w : World) :
    Calls Tryd.prog 29 #[.slice A n c, .int .i64 t] w fun e w' => e = .returned (.int .i64 ((min t.toNat n : Nat) : Int)) ∧ w' = w := by
  obtain ⟨m, hm⟩ : ∃ m : Nat, (if t < 0 then (0 : Int) else t) = (m : Int) := ⟨t.toNat, by split <;> omega⟩
  have e : t.toNat = m := by split at hm <;> omega
  rw [e]
  clear e
  go_enter Tryd.func29, Tryd.ntmps29
  by_cases hl : n < m
  · have q : (n : Int) < (m : Int) := by omega
    go_wp2_with fail
    go_ret
    exact ⟨ret_int (by omega), rfl⟩
  · have q : ¬ (n : Int) < (m : Int) := by omega
    go_wp2_with fail
    go_ret
    exact ⟨ret_int (by omega), rfl⟩
theorem has_any (A : Option Addr) (c : Nat) (ps : List Kv) (k : List UInt8) (w : World) (hr : RdQ w A ps) (hn : ps.length ≤ 1000) (hs : Rises ps) :
    Calls Tryd.prog 23 #[.slice A ps.length c, .string ⟨k.toArray⟩] w fun e w' => e = .returned (.bool (hasK ps k)) ∧ w.grownBy w' none := by
  have hG := Get_any A c ps k w hr (by omega) hs
  clear hr hs
  generalize getV ps k = v at *
  generalize hasK ps k = b at *
  go_enter Tryd.func23, Tryd.ntmps23
  go_wp2_with (go_at_call 36; refine hG.mono ?_; rintro e w1 ⟨rfl, hg1⟩)
  go_ret
  exact ⟨rfl, hg1⟩

theorem made_rowsP (n : Nat) : madeCells (Value.slice none 0 0).cells (n * 1) = (List.replicate n (Value.slice none 0 0)).toArray := by
  apply Array.ext'
  apply List.ext_getElem
  · simp [madeCells]
  · intro i h1 h2
    simp [madeCells, Value.cells, Nat.mod_one]
theorem make_rowsP (n : Nat) (h : n ≤ 1000) (w : World) : (Instr.makeSlice 46 (.int .i64 (n : Int)) (.int .i64 (n : Int))).run Tryd.prog w = .ok (.slice (some ⟨w.heap.size, 0, none⟩) n n) (w.alloc (.cells (List.replicate n (Value.slice none 0 0)).toArray 61)) := by
  obtain ⟨i, hi, hz, hs, hb⟩ := info_parts info_listT
  have := run_make (P := Tryd.prog) w 46 61 i (.slice none 0 0) Tryd.underlying46 hi hz .i64 .i64 (n : Int) (n : Int) (by omega) (by omega) (by rw [hb]; omega) (by omega)
  rw [hs, Int.toNat_natCast, made_rowsP] at this
  exact this
theorem make_rowsH (n : Nat) (h : n ≤ 1000) (w : World) : (Instr.makeSlice 25 (.int .i64 (n : Int)) (.int .i64 (n : Int))).run Tryd.prog w = .ok (.slice (some ⟨w.heap.size, 0, none⟩) n n) (w.alloc (.cells (List.replicate n (Value.slice none 0 0)).toArray 39)) := by
  obtain ⟨i, hi, hz, hs, hb⟩ := info_parts info_listHs
  have := run_make (P := Tryd.prog) w 25 39 i (.slice none 0 0) Tryd.underlying25 hi hz .i64 .i64 (n : Int) (n : Int) (by omega) (by omega) (by rw [hb]; omega) (by omega)
  rw [hs, Int.toNat_natCast, made_rowsP] at this
  exact this
/-- A row of n lists, filled in order: so far. -/
def rowP' (n : Nat) (xs : List Value) : Array Value := (xs ++ List.replicate (n - xs.length) (Value.slice none 0 0)).toArray
theorem rowP'_next (n : Nat) (xs : List Value) (v : Value) (h : xs.length < n) : (rowP' n xs).setIfInBounds xs.length v = rowP' n (xs ++ [v]) := by
  unfold rowP'
  apply Array.ext'
  obtain ⟨k, hk⟩ : ∃ k, n - xs.length = k + 1 := ⟨n - xs.length - 1, by omega⟩
  rw [show n - (xs ++ [v]).length = k by rw [List.length_append, List.length_singleton]; omega, hk, List.replicate_succ]
  simp only [Array.toList_setIfInBounds]
  rw [List.set_append_right _ _ (Nat.le_refl _)]
  simp
theorem rowP'_get (n : Nat) (xs : List Value) (h : xs.length < n) : (rowP' n xs)[xs.length]? = some (Value.slice none 0 0) := by
  unfold rowP'
  obtain ⟨k, hk⟩ : ∃ k, n - xs.length = k + 1 := ⟨n - xs.length - 1, by omega⟩
  simp [hk, List.replicate_succ]
/-- Lists of the call's own, none of them in block G. -/
def AptP (w : World) (G : Nat) (qs : List Part) : Prop := ∀ q ∈ qs, OwnB w (pv q) q.2.1 ∧ (pv q).ownBlock ≠ some G
theorem AptP.kept {w w' : World} {G : Nat} {qs : List Part} (h : AptP w G qs) (hg : w.grownBy w' none) : AptP w' G qs := fun q hq => ⟨(h q hq).1.kept hg, (h q hq).2⟩
theorem AptP.over {w : World} {G i : Nat} {qs : List Part} {v : Value} (h : AptP w G qs) : AptP (w.setCell ⟨G, i, none⟩ v) G qs := fun q hq => ⟨(h q hq).1.keep (grown_set (grown_refl w (some G)) (.inl rfl) v) (.inr (h q hq).2), (h q hq).2⟩
theorem AptP.rd {w : World} {A : Option Addr} {G : Nat} {qs : List Part} (h : AptP w G qs) (hr : RdAt w A (qs.map pv)) : RdP w A qs := ⟨hr, fun q hq => by
  obtain ⟨A', c', e, -, -, hr'⟩ := (h q hq).1.slice
  have : q.1 = A' := by have := e; unfold pv at this; injection this
  rw [this]; exact hr'⟩
/-- Paths of the call's own, none of them in block G, none in a block below N. -/
def AptH (w : World) (G N : Nat) (rs : List Ph) : Prop := ∀ r ∈ rs, OwnHs w (hv r) r.2.1 r.2.2.1 ∧ (∀ g, (hv r).ownBlock = some g → g ≠ G ∧ N ≤ g)
theorem AptH.kept {w w' : World} {G N : Nat} {rs : List Ph} (h : AptH w G N rs) (hg : w.grownBy w' none) : AptH w' G N rs := fun q hq => ⟨(h q hq).1.kept hg, (h q hq).2⟩
theorem AptH.over {w : World} {G N i : Nat} {rs : List Ph} {v : Value} (h : AptH w G N rs) : AptH (w.setCell ⟨G, i, none⟩ v) G N rs := fun q hq => ⟨(h q hq).1.keep (grown_set (grown_refl w (some G)) (.inl rfl) v) (by
  cases e : (hv q).ownBlock with
  | none => exact .inl rfl
  | some k => exact .inr fun e2 => ((h q hq).2 k e).1 (by injection e2)), (h q hq).2⟩

/-- A call's result is the paths of m places from place i on, all of it new. -/
def PathsAt (w : World) (ps : List Kv) (i m : Nat) (e : Ending) (w' : World) : Prop := ∃ B rs, e = .returned (.slice B m m) ∧ RdPs w' B rs ∧ rs.map (fun r => r.2.1) = pathsB ps i m ∧ (∀ ad, B = some ad → w.heap.size ≤ ad.block) ∧ (∀ r ∈ rs, ∀ ad, r.1 = some ad → w.heap.size ≤ ad.block) ∧ w.grownBy w' none
set_option maxRecDepth 100000 in
set_option maxHeartbeats 2000000 in
theorem paths_any (A : Option Addr) (c : Nat) (ps : List Kv) (i m j : Nat) (w : World) (hr : RdQ w A ps) (hn : ps.length ≤ 100) (hs : ∀ p ∈ ps, p.1.length ≤ 100 ∧ p.2.length ≤ 100) (hj : j = i + m) (hjn : j ≤ ps.length) (hk : Laid2 w) :
    Calls Tryd.prog 31 #[.slice A ps.length c, .int .i64 (i : Int), .int .i64 (j : Int)] w fun e w' => PathsAt w ps i m e w' := by
  obtain ⟨n, hnn⟩ : ∃ n, n = ps.length := ⟨_, rfl⟩
  have hmk := fun W => make_rowsP n (by omega) W
  have hmk2 := fun W => make_rowsH m (by omega) W
  obtain ⟨C0, hC0⟩ : ∃ C : Array Value, C = (List.replicate n (.slice none 0 0)).toArray := ⟨_, rfl⟩
  obtain ⟨C2, hC2⟩ : ∃ C : Array Value, C = (List.replicate m (.slice none 0 0)).toArray := ⟨_, rfl⟩
  rw [← hC0] at hmk
  rw [← hC2] at hmk2
  rw [← hnn] at hn hjn
  have HN := Lib.hid hnn
  have hC0' := Lib.hid hC0
  have hC2' := Lib.hid hC2
  rw [← hnn]
  have hJ := Lib.hid hj
  have hsub : IntKind.i64.wrap ((j : Int) - (i : Int)) = (m : Int) := by rw [hj, show ((i + m : Nat) : Int) - (i : Int) = (m : Int) by omega]; exact IntWalk.i64_in _ ⟨by omega, by omega⟩
  have hmn : i + m ≤ n := by omega
  clear hC0 hC2 hnn hj
  go_enter Tryd.func31, Tryd.ntmps31
  go_wp2_with fail
  generalize hW : World.alloc w _ = W
  have hbL : Hid (W.heap[w.heap.size]? = some (.cells (rowP' n []) 61 (0, 0))) := by
    show _ = _
    rw [← hW, hC0'.out]
    exact alloc_at rfl
  have hgW : w.grownBy W none := by rw [← hW]; exact grown_alloc (grown_refl _ _) _
  clear hW hmk hC0'
  go_loopw [17] (fun x wz => ∃ (k : Nat) (qs : List Part), k ≤ n ∧ x = .int .i64 k ∧ Hid (qs.length = k) ∧ Hid (wz.heap[w.heap.size]? = some (.cells (rowP' n (qs.map pv)) 61 (0, 0))) ∧ Hid (leavesOf qs = leavesL (ps.take k)) ∧ AptP wz w.heap.size qs ∧ w.grownBy wz none) (fun x _ => n - (intOf x).toNat)
  case atStart => exact ⟨0, [], Nat.zero_le _, rfl, rfl, hbL.out, rfl, (fun q hq => by cases hq), hgW⟩
  case round =>
    obtain ⟨k, qs, hkn, rfl, hqk, hqz, hql, hap, hgn⟩ := hrel
    clear hbL
    by_cases hlt : k < n
    · have hltp : k < ps.length := by have := HN.out; omega
      obtain ⟨ad, rfl, hc⟩ := RdQ.at (hr.kept hgn) hltp
      have hsj := hs _ (List.getElem_mem hltp)
      have hnx := Lib.hid (leavesL_next hltp)
      generalize ps[k] = y at *
      have HC := Lib.hid hc
      clear hc
      have hb : ∀ W : World, (wr.alloc (Obj.cells #[Value.string ⟨y.1.toArray⟩, Value.string ⟨y.2.toArray⟩] 23)).grownBy W none → AtQ W ⟨wr.heap.size, 0, none⟩ y := fun W h => box_at h
      have hb0 := hb _ (grown_refl _ _)
      have hlen : (qs.map pv).length = k := by rw [List.length_map, hqk.out]
      have hltG : w.heap.size < wr.heap.size := (Array.getElem?_eq_some_iff.1 hqz.out).1
      have hkI : (k : Int) < (n : Int) := by omega
      go_wp2_with (first
        | (refine wpList_load_kv (by rfl) _ rfl (ad.add (k * 2)) rfl y HC.out ?_)
        | (refine wpList_load_kv (by rfl) _ rfl ⟨wr.heap.size, 0, none⟩ rfl y hb0 ?_)
        | (go_at_call 35; refine (Leaf_any y _ (by omega) (by omega)).mono ?_; rintro e wa ⟨va, rfl, hoa, hga, hfa⟩; have hgA := grown_none (grown_alloc (grown_refl wr none) _) hga; obtain ⟨Ae, ce, e1, -⟩ := hoa.slice; subst e1; have hzA := keep_of hqz.out hgA; have hcell : wa.cell? ⟨w.heap.size, k, none⟩ = some (.slice none 0 0) := (by rw [cell_of_row _ _ _ _ _ _ hzA, ← hlen]; exact rowP'_get n _ (by omega)); have hfro : wa.frozen? ⟨w.heap.size, k, none⟩ = false := frozen_of_row _ _ _ _ _ hzA))
      go_roundw
      case rel =>
        have hap2 : AptP wa w.heap.size (qs ++ [(Ae, leafL y, ce)]) := fun q hq => by
          rcases List.mem_append.1 hq with hq | hq
          · exact (hap.kept hgA) q hq
          · rw [List.mem_singleton.1 hq]
            refine ⟨hoa, fun e => ?_⟩
            have := hfa _ e
            simp at this
            omega
        refine ⟨k + 1, qs ++ [(Ae, leafL y, ce)], by omega, by go_num, ?_, ?_, ?_, hap2.over, grown_set (grown_none hgn hgA) (.inr (by simp)) _⟩
        · show _ = _; rw [List.length_append, hqk.out]; rfl
        · show _ = _
          have h := heap_setCell_same wa w.heap.size k _ _ (.slice Ae (leafL y).length ce) hzA
          rw [h, List.map_append, List.map_singleton]
          have h2 := rowP'_next n (qs.map pv) (pv (Ae, leafL y, ce)) (by omega)
          rw [hlen] at h2
          rw [← h2]; rfl
        · show _ = _
          rw [hnx.out, ← hql.out]; unfold leavesOf; rw [List.map_append]; rfl
      case measure => simp [intOf]; omega
    · obtain rfl : k = n := by omega
      have hlv : leavesOf qs = leavesL ps := by rw [hql.out, HN.out, List.take_length]
      have hrow : RdAt wr (some ⟨w.heap.size, 0, none⟩) (qs.map pv) := by
        have h := hqz.out
        unfold rowP' at h
        rw [List.length_map, hqk.out, Nat.sub_self, List.replicate_zero, List.append_nil] at h
        exact rd_row h
      have hrd := hap.rd hrow
      have hkr := hk.kept hgn
      have hpa : ∀ W (x : Nat), wr.grownBy W none → x < m → Calls Tryd.prog 21 #[.slice (some ⟨w.heap.size, 0, none⟩) k k, .int .i64 ((i : Int) + (x : Int))] W fun e w' => ∃ (Ar : Option Addr) (Pr : List UInt8) (nr cr : Nat), e = .returned (.slice Ar nr cr) ∧ OwnHs w' (.slice Ar nr cr) Pr nr ∧ Pr = pathB ps (i + x) ∧ (∀ g, (Value.slice Ar nr cr).ownBlock = some g → W.heap.size ≤ g) ∧ W.grownBy w' none := fun W x hg hx => by
        have h := Path_any k (some ⟨w.heap.size, 0, none⟩) qs k (i + x) W hqk.out (Nat.le_refl _) (by omega) (by omega) (leaves_le hlv hs) (hkr.kept hg) (hrd.kept hg)
        rw [show ((i + x : Nat) : Int) = (i : Int) + (x : Int) by omega] at h
        refine h.mono ?_
        rintro e w' ⟨v, rfl, ho, hg, hnw, -⟩
        rw [hlv] at ho
        obtain ⟨⟨Ar, Pr, nr, cr⟩, e1, e2, e3⟩ := own_path ho
        unfold hv at e1
        dsimp only at e1 e2 e3
        subst e1
        subst e2
        subst e3
        exact ⟨Ar, _, _, cr, rfl, ho, rfl, fun g e => hnw g (by cases Ar with | none => cases e | some a => cases e; exact List.mem_singleton.2 rfl), hg⟩
      have hsw : w.heap.size ≤ wr.heap.size := hgn.size
      clear hqk hqz hql hap hrow hrd hlv hr hs hgW HN hk hkr
      obtain ⟨w1, hw1⟩ : ∃ w1, w1 = wr := ⟨_, rfl⟩
      subst hw1
      have hkk : ¬ (k : Int) < (k : Int) := by omega
      go_upto_block 5 with (fail)
      generalize hW : World.alloc w1 _ = W
      have hb2 : Hid (W.heap[w1.heap.size]? = some (.cells (rowP' m []) 39 (0, 0))) := by
        show _ = _
        rw [← hW, hC2'.out]
        exact alloc_at rfl
      have hg2 : w1.grownBy W none := by rw [← hW]; exact grown_alloc (grown_refl _ _) _
      clear hW hmk2 hC2'
      go_wp2_with fail
      go_loopw [34] (fun x wz => ∃ (y : Nat) (rs : List Ph), y ≤ m ∧ x = .int .i64 y ∧ Hid (rs.length = y) ∧ Hid (wz.heap[w1.heap.size]? = some (.cells (rowP' m (rs.map hv)) 39 (0, 0))) ∧ Hid (rs.map (fun r => r.2.1) = pathsB ps i y) ∧ AptH wz w1.heap.size w.heap.size rs ∧ w1.grownBy wz none) (fun x _ => m - (intOf x).toNat)
      case atStart => exact ⟨0, [], Nat.zero_le _, rfl, rfl, hb2.out, rfl, (fun q hq => by cases hq), hg2⟩
      case round =>
        obtain ⟨y, rs, hym, rfl, hry, hrz, hrp, hah, hgz⟩ := hrel
        clear hb2 hg2
        by_cases hly : y < m
        · have q : (y : Int) < (m : Int) := by omega
          have hwi : IntKind.i64.wrap ((i : Int) + (y : Int)) = (i : Int) + (y : Int) := IntWalk.i64_in _ ⟨by omega, by omega⟩
          have hp := hpa _ y hgz hly
          have hlen : (rs.map hv).length = y := by rw [List.length_map, hry.out]
          have hltG : w1.heap.size < wr.heap.size := (Array.getElem?_eq_some_iff.1 hrz.out).1
          clear hpa
          go_wp2_with (first
            | (go_at_call 21; refine hp.mono ?_; rintro e wa ⟨Ar, Pr, nr, cr, rfl, how, hre, hnw, hga⟩; have HRE := Lib.hid hre; clear hre; have hzA := keep_of hrz.out hga; have hcell : wa.cell? ⟨w1.heap.size, y, none⟩ = some (.slice none 0 0) := (by rw [cell_of_row _ _ _ _ _ _ hzA, ← hlen]; exact rowP'_get m _ (by omega)); have hfro : wa.frozen? ⟨w1.heap.size, y, none⟩ = false := frozen_of_row _ _ _ _ _ hzA))
          go_roundw
          case rel =>
            have hah2 : AptH wa w1.heap.size w.heap.size (rs ++ [(Ar, Pr, nr, cr)]) := fun q hq => by
              rcases List.mem_append.1 hq with hq | hq
              · exact (hah.kept hga) q hq
              · rw [List.mem_singleton.1 hq]
                exact ⟨how, fun g e => by have := hnw g e; omega⟩
            refine ⟨y + 1, rs ++ [(Ar, Pr, nr, cr)], by omega, by go_num, ?_, ?_, ?_, hah2.over, grown_set (grown_none hgz hga) (.inr (by simp)) _⟩
            · show _ = _; rw [List.length_append, hry.out]; rfl
            · show _ = _
              have h := heap_setCell_same wa w1.heap.size y _ _ (.slice Ar nr cr) hzA
              rw [h, List.map_append, List.map_singleton]
              have h2 := rowP'_next m (rs.map hv) (hv (Ar, Pr, nr, cr)) (by omega)
              rw [hlen] at h2
              rw [← h2]; rfl
            · show _ = _
              rw [List.map_append, hrp.out, pathsB_next, ← HRE.out]; rfl
          case measure => simp [intOf]; omega
        · have q : ¬ (y : Int) < (m : Int) := by omega
          obtain rfl : y = m := by omega
          go_wp2_with fail
          go_ret
          have h := hrz.out
          unfold rowP' at h
          rw [List.length_map, hry.out, Nat.sub_self, List.replicate_zero, List.append_nil] at h
          exact ⟨_, rs, rfl, ⟨rd_row h, fun r hr => path_ok (hah r hr).1⟩, hrp.out, (fun ad e => by cases e; exact hsw), (fun r hr ad e => ((hah r hr).2 ad.block (by unfold hv; rw [e]; rfl)).2), grown_none hgn hgz⟩
end Go.Proofs.YtpeepiboocdnaaaDoor
