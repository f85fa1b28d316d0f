/- The document's own proof of some pairs: its walk. -/
import Derived.Test.YtpeepiboocdnaaaDoorPvD
import Derived.Test.YtpeepiboocdnaaaDoorStC
import Derived.Deep.DeepCutAuto
namespace Go.Proofs.YtpeepiboocdnaaaDoor
open Go.RowKit

theorem info_listHs : (Tryd.prog.info? 39).map (fun i => (i.zero, i.size, i.bytes)) = some (some (.slice none 0 0), 1, 24) := by kernel_rfl
theorem lit_1hs (A1 : Option Addr) (n1 c1 : Nat) (w : World) : (Instr.buildSlice 25 1 #[(0, .slice A1 n1 c1)]).run Tryd.prog w = .ok (.slice (some ⟨w.heap.size, 0, none⟩) 1 1) (w.alloc (.cells #[.slice A1 n1 c1] 39)) := by kernel_rfl
theorem size_pf : (Tryd.prog.info? 27).map (·.size) = some 4 := by kernel_rfl

set_option maxRecDepth 100000 in
set_option maxHeartbeats 2000000 in
theorem RProve_any (A : Option Addr) (c : Nat) (ps : List Kv) (i : Nat) (tz : Int) (w : World) (hr : RdQ w A ps) (hn : ps.length ≤ 100) (hs : ∀ p ∈ ps, p.1.length ≤ 100 ∧ p.2.length ≤ 100) (hi : i ≤ 1000) (hto : tz ≤ ps.length) :
    Calls Tryd.prog 16 #[.slice A ps.length c, .int .i64 (i : Nat), .int .i64 tz] w fun e w' => PfAt w (someL ps i tz.toNat) e w' := by
  by_cases hlt : (i : Int) < tz
  · obtain ⟨j, rfl⟩ : ∃ j : Nat, tz = (j : Int) := ⟨tz.toNat, by omega⟩
    have hij : i < j := by omega
    have hjn : j ≤ ps.length := by omega
    have hfin : someL ps i ((j : Int)).toNat = ⟨ps.length, i, (ps.drop i).take (j - i), pathsB ps i (j - i)⟩ := by rw [Int.toNat_natCast]; unfold someL; rw [if_pos hij]
    rw [hfin]
    obtain ⟨N, hN⟩ : ∃ N, N = ps.length := ⟨_, rfl⟩
    have HN := Lib.hid hN
    clear hfin
    have hge : decide (j ≤ i) = false := decide_eq_false (by omega)
    have hge2 : decide ((j : Int) ≤ (i : Int)) = false := decide_eq_false (by omega)
    go_enter Tryd.func16, Tryd.ntmps16
    go_wp2_with fail
    generalize hW : World.alloc (World.alloc w _) _ = W
    have hG : W.heap[w.heap.size + 1]? = some (.cells #[.int .i64 (ps.length : Nat), .int .i64 (i : Nat), .slice none 0 0, .slice none 0 0] 27 (0, 0)) := by rw [← hW]; exact alloc_at (by simp)
    have hR : ∃ CR, CR.size = 4 ∧ W.heap[w.heap.size]? = some (.cells CR 27 (0, 0)) := by rw [← hW]; exact ⟨_, rfl, alloc_old (alloc_at rfl)⟩
    have hgW : w.grownBy W none := by rw [← hW]; exact grown_alloc (grown_alloc (grown_refl _ _) _) _
    obtain ⟨CR, hCR, hR⟩ := hR
    clear hW
    have h0 : PrS w (w.heap.size + 1) CR ps i 0 0 W (.slice none 0 0) (.slice none 0 0) [] := ⟨rfl, hG, hR, by rw [List.take_zero]; exact OwnQ.nil _, OwnV.nil _, (fun r hr => by cases hr), rfl, hgW, (fun k e => by cases e), (fun k e => by cases e), fun r hr => by cases hr⟩
    clear hG hR hgW
    go_loopw [8] (fun x wr => ∃ (k : Nat) (pv rw : Value) (rs : List Ph), k ≤ j - i ∧ x = .int .i64 ((i : Int) + (k : Int)) ∧ PrS w (w.heap.size + 1) CR ps i k k wr pv rw rs) (fun x _ => (j + 1 - intOf x).toNat)
    case atStart => exact ⟨0, _, _, [], Nat.zero_le _, by simp, h0⟩
    case round =>
      obtain ⟨k, pv, rw', rs, hk, rfl, hp⟩ := hrel
      clear h0
      by_cases hlt2 : k < j - i
      · have q1 : (i : Int) + (k : Int) < (j : Int) := by omega
        have hik : i + k < ps.length := by omega
        obtain ⟨ad, rfl, hc⟩ := RdQ.at (hr.kept hp.gw) hik
        have hidx : ∀ W, (Instr.indexAt 24 (.slice (some ad) ps.length c) (.int .i64 ((i : Int) + (k : Int)))).run Tryd.prog W = .ok (.pointer (some (ad.add ((i + k) * 2)))) W := fun W => by
          have := idx_Q ad ps.length c (i + k) hik W
          rwa [show ((i + k : Nat) : Int) = (i : Int) + (k : Int) by omega] at this
        have htk : (ps.drop i).take (k + 1) = (ps.drop i).take k ++ [ps[i + k]] := by
          rw [List.take_succ_eq_append_getElem (by rw [List.length_drop]; omega), List.getElem_drop]
        have HTK := Lib.hid htk
        have htl : ((ps.drop i).take k).length ≤ 100 := by rw [List.length_take]; omega
        generalize ps[i + k] = y at *
        clear htk
        generalize hV : wr.alloc (.cells #[.string ⟨y.1.toArray⟩, .string ⟨y.2.toArray⟩] 23) = V
        have hgV : wr.grownBy V none := by rw [← hV]; exact grown_alloc (grown_refl _ _) _
        have hbx : RdQ V.drew (some ⟨wr.heap.size, 0, none⟩) [y] := by rw [← hV]; exact rd_row (w := (wr.alloc _).drew) (t := 23) (fr := (0, 0)) (alloc_at rfl)
        have hpV := hp.kept (grown_drew hgV)
        have hown := hpV.op
        obtain ⟨a2, -, -, -⟩ := (hp.kept (grown_drew (grown_refl _ _))).cells
        obtain ⟨b2, -, -, -⟩ := hpV.cells
        have a1 : wr.drew.cell? (ad.add ((i + k) * 2)) = some (.string ⟨y.1.toArray⟩) := hc.1
        have a0 : wr.drew.cell? ⟨(ad.add ((i + k) * 2)).block, (ad.add ((i + k) * 2)).off + 1, none⟩ = some (.string ⟨y.2.toArray⟩) := hc.2
        subst hV
        clear hc
        go_upto_region 8 with (fail)
        go_cut [] (fun wx => ∃ pv2, PrS w (w.heap.size + 1) CR ps i (k + 1) k wx pv2 rw' rs)
        case first =>
          go_region_law (first | (refine step_appQ (v := pv) rfl _ _ rfl rfl hown (qs := [y]) rfl rfl hbx (by simp; omega) ?_; intro v6 w6 ho6 hg6; have hp6 := hpV.pair hg6 (by rw [HTK.out]; exact ho6); have hk6 := hpV.keepP hg6.1; obtain ⟨A6, c6, e6, -, -⟩ := ho6.toPS; obtain ⟨n6, hn6⟩ : ∃ n6, n6 = ((ps.drop i).take k ++ [y]).length := ⟨_, rfl⟩; rw [← hn6] at e6; clear hn6; subst e6; have s2 : w6.cell? ⟨w.heap.size + 1, 2, none⟩ = some pv := (by rw [cell_of_row w6 _ 2 _ _ _ hk6]; rfl); have f2 : w6.frozen? ⟨w.heap.size + 1, 2, none⟩ = false := frozen_of_row w6 _ 2 _ _ hk6))
          all_goals
            go_wp2
            go_meet
            exact ⟨_, hp6⟩
        case rest =>
          obtain ⟨pv2, hp2⟩ := hcut
          clear hp hpV hown hbx a2 b2 a1 a0 hidx htl HTK
          have hml : (rs.map hv).length = k := by rw [List.length_map]; have := congrArg List.length hp2.hb; rw [List.length_map, pathsB_len] at this; exact this
          have hlv : ∀ W, wc.grownBy W none → Calls Tryd.prog 28 #[.slice (some ad) ps.length c] W fun e w' => ∃ (A' : Option Addr) (qs : List Part) (c' : Nat), e = .returned (.slice A' ps.length c') ∧ ps.length ≤ c' ∧ RdP w' A' qs ∧ leavesOf qs = leavesL ps ∧ W.grownBy w' none := fun W hg => (Rleaves_any (some ad) c ps W (hr.kept (grown_none hp2.gw hg)) hn hs).mono (by
            rintro e w' ⟨A', qs, c', rfl, h1, h2, h3, h4⟩
            have := leaves_len h3
            exact ⟨A', qs, c', by rw [this], by omega, h2, h3, h4⟩)
          have hpa : ∀ A' qs c' W, ps.length ≤ c' → RdP W A' qs → leavesOf qs = leavesL ps → Calls Tryd.prog 27 #[.slice A' ps.length c', .int .i64 ((i : Int) + (k : Int))] W fun e w' => ∃ (Ar : Option Addr) (Pr : List UInt8) (nr cr : Nat), e = .returned (.slice Ar nr cr) ∧ OwnHs w' (.slice Ar nr cr) Pr nr ∧ Pr = pathB ps (i + k) ∧ (∀ g, (Value.slice Ar nr cr).ownBlock = some g → W.heap.size ≤ g) ∧ W.grownBy w' none := fun A' qs c' W h1 h2 h3 => by
            have h := RPath_any ps.length A' qs c' (i + k) W (leaves_len h3) h1 (by omega) (by omega) (leaves_le h3 hs) h2
            rw [show ((i + k : Nat) : Int) = (i : Int) + (k : Int) by omega] at h
            refine h.mono ?_
            rintro e w' ⟨v, rfl, ho, hg, hnw, -⟩
            rw [h3] at ho
            obtain ⟨⟨Ar, Pr, nr, cr⟩, e1, e2, e3⟩ := own_path ho
            unfold hv at e1
            dsimp only at e1 e2 e3
            subst e1
            subst e2
            subst e3
            exact ⟨Ar, _, _, cr, rfl, ho, rfl, fun g e => hnw g (by cases Ar with | none => cases e | some a => cases e; exact List.mem_singleton.2 rfl), hg⟩
          obtain ⟨-, a3, -, -⟩ := (hp2.kept (grown_drew (grown_refl _ _))).cells
          have hlv0 := hlv wc.drew (grown_drew (grown_refl _ _))
          go_upto_region 9 with (fail)
          go_region_law (first
            | (go_simp; go_at_call 28; refine hlv0.mono ?_; rintro e w5 ⟨A5, qs, c5, rfl, hc5, hq5, hl5, hg5⟩; have hp5 := hp2.kept (grown_none (grown_drew (grown_refl _ _)) hg5); obtain ⟨-, b3, -, -⟩ := hp5.cells)
            | (go_simp; go_at_call 27; refine (hpa A5 qs c5 _ hc5 hq5 hl5).mono ?_; rintro e w6 ⟨Ar, Pr, nr, cr, rfl, how, hre, hnw, hg6⟩; have hre' := Lib.hid hre; clear hre; have hp6 := hp5.kept hg6; obtain ⟨-, d3, -, -⟩ := hp6.cells; have hpL := hp6.kept (grown_alloc (grown_refl w6 none) (.cells #[.slice Ar nr cr] 39)); obtain ⟨-, e3, -, -⟩ := hpL.cells)
            | (refine step_appV (v := rw') rfl _ _ 25 rfl Tryd.underlying25 info_listHs rfl rfl hpL.ov (news := [.slice Ar nr cr]) rfl rfl (rd_row (cs := [_]) (alloc_at rfl)) (by intro u hu; rw [List.mem_singleton.1 hu]; rfl) (by rw [hml]; simp; omega) (by rw [hml]; simp [maxLen]; omega) ?_; intro v7 w7 ho7 hg7; have hp7 := hpL.path (r := (Ar, Pr, nr, cr)) (how.kept (grown_alloc (grown_refl w6 none) (.cells #[.slice Ar nr cr] 39))) hre'.out (fun g e => Nat.le_trans hp5.gw.size (hnw g e)) hg7 ho7; have hk7 := hpL.keepR hg7.1; obtain ⟨A7, c7, e7, -, -, -⟩ := ho7.slice; rw [List.length_append, hml, List.length_singleton] at e7; subst e7; have s3 : w7.cell? ⟨w.heap.size + 1, 3, none⟩ = some rw' := (by rw [cell_of_row w7 _ 3 _ _ _ hk7]; rfl); have f3 : w7.frozen? ⟨w.heap.size + 1, 3, none⟩ = false := frozen_of_row w7 _ 3 _ _ hk7))
          all_goals
            go_wp2
            go_roundw
            case rel => exact ⟨k + 1, _, _, rs ++ [(Ar, Pr, nr, cr)], by omega, by go_num, hp7⟩
            case measure => simp [intOf]; omega
      · have q1 : ¬ (i : Int) + (k : Int) < (j : Int) := by omega
        obtain rfl : k = j - i := by omega
        obtain ⟨A5, c5, B5, d5, e1, e2, -, -, -⟩ := hp.done #[]
        obtain ⟨n5, hn5⟩ : ∃ n5, n5 = ((ps.drop i).take (j - i)).length := ⟨_, rfl⟩
        obtain ⟨m5, hm5⟩ : ∃ m5, m5 = (pathsB ps i (j - i)).length := ⟨_, rfl⟩
        have hG5 := hp.hG
        have hR5 := hp.hR
        have hdone := Lib.hid (hp.done #[.int .i64 (ps.length : Nat), .int .i64 (i : Nat), .slice A5 n5 c5, .slice B5 m5 d5])
        have e1' := Lib.hid e1
        have e2' := Lib.hid e2
        rw [e1, e2, ← hn5, ← hm5] at hG5
        have HN5 := Lib.hid hn5
        have HM5 := Lib.hid hm5
        clear hp e1 e2 hn5 hm5
        have hsz : (Tryd.prog.info? 27).map (·.size) = some (#[Value.int .i64 (ps.length : Nat), .int .i64 (i : Nat), .slice A5 n5 c5, .slice B5 m5 d5] : Array Value).size := size_pf
        have hall : (#[Value.int .i64 (ps.length : Nat), .int .i64 (i : Nat), .slice A5 n5 c5, .slice B5 m5 d5] : Array Value).all (·.oneCell') = true := by simp [Value.oneCell']
        go_wp2_with (first
          | (refine wpList_load_row rfl 27 _ rfl (w.heap.size + 1) rfl _ #[.int .i64 (ps.length : Nat), .int .i64 (i : Nat), .slice A5 n5 c5, .slice B5 m5 d5] (0, 0) _ hG5 Tryd.underlying27 rfl hsz ?_)
          | (refine wpList_store_row rfl 27 _ _ rfl w.heap.size #[.int .i64 (ps.length : Nat), .int .i64 (i : Nat), .slice A5 n5 c5, .slice B5 m5 d5] rfl rfl 27 _ hR5 hsz hCR hall ?_))
        refine bodyPost_ret (results_cell_row rfl _ _ w.heap.size 27 #[.int .i64 (ps.length : Nat), .int .i64 (i : Nat), .slice A5 n5 c5, .slice B5 m5 d5] (0, 0) _ rfl (setRow_heap _ _ _ _ _ _ hR5) Tryd.underlying27 rfl hsz) rfl ?_
        obtain ⟨A6, c6, B6, d6, x1, x2, x3, x4, x5⟩ := hdone.out
        have y1 := e1'.out.symm.trans x1
        have y2 := e2'.out.symm.trans x2
        rw [← HN5.out] at y1
        rw [← HM5.out] at y2
        refine ⟨A6, c6, B6, d6, rs, ?_, x3, x4, x5⟩
        unfold pfv
        dsimp only
        rw [← HN5.out, ← HM5.out, y1, y2]
  · have hfin : someL ps i tz.toNat = ⟨ps.length, 0, [], []⟩ := by unfold someL; rw [if_neg (by omega)]
    rw [hfin]
    have hge : tz ≤ (i : Int) := by omega
    go_enter Tryd.func16, Tryd.ntmps16
    go_upto_if 15 with (fail)
    generalize hW : World.alloc (World.alloc w _) _ = W
    have hG : W.heap[w.heap.size + 1]? = some (.cells #[.int .i64 (ps.length : Nat), .int .i64 (i : Nat), .slice none 0 0, .slice none 0 0] 27 (0, 0)) := by rw [← hW]; exact alloc_at (by simp)
    have hR : ∃ CR, CR.size = 4 ∧ W.heap[w.heap.size]? = some (.cells CR 27 (0, 0)) := by rw [← hW]; exact ⟨_, rfl, alloc_old (alloc_at rfl)⟩
    have hgW : w.grownBy W none := by rw [← hW]; exact grown_alloc (grown_alloc (grown_refl _ _) _) _
    obtain ⟨CR, hCR, hR⟩ := hR
    have hG1 : (W.setCell ⟨w.heap.size + 1, 1, none⟩ (.int .i64 0)).heap[w.heap.size + 1]? = some (.cells #[.int .i64 (ps.length : Nat), .int .i64 0, .slice none 0 0, .slice none 0 0] 27 (0, 0)) := heap_setCell_same W _ 1 _ _ _ hG
    have hR1 : (W.setCell ⟨w.heap.size + 1, 1, none⟩ (.int .i64 0)).heap[w.heap.size]? = some (.cells CR 27 (0, 0)) := (Below.heap_setCell W ⟨w.heap.size + 1, 1, none⟩ _ w.heap.size (by simp)).trans hR
    have g1 : W.cell? ⟨w.heap.size + 1, 1, none⟩ = some (.int .i64 (i : Nat)) := by rw [cell_of_row W _ 1 _ _ _ hG]; rfl
    have g2 : W.frozen? ⟨w.heap.size + 1, 1, none⟩ = false := frozen_of_row W _ 1 _ _ hG
    clear hW
    have hsz : (Tryd.prog.info? 27).map (·.size) = some (#[Value.int .i64 (ps.length : Nat), .int .i64 0, .slice none 0 0, .slice none 0 0] : Array Value).size := size_pf
    have hall : (#[Value.int .i64 (ps.length : Nat), .int .i64 0, .slice none 0 0, .slice none 0 0] : Array Value).all (·.oneCell') = true := by simp [Value.oneCell']
    go_wp2_with (first
      | (refine wpList_load_row rfl 27 _ rfl (w.heap.size + 1) rfl _ #[.int .i64 (ps.length : Nat), .int .i64 0, .slice none 0 0, .slice none 0 0] (0, 0) _ hG1 Tryd.underlying27 rfl hsz ?_)
      | (refine wpList_store_row rfl 27 _ _ rfl w.heap.size #[.int .i64 (ps.length : Nat), .int .i64 0, .slice none 0 0, .slice none 0 0] rfl rfl 27 _ hR1 hsz hCR hall ?_))
    refine bodyPost_ret (results_cell_row rfl _ _ w.heap.size 27 #[.int .i64 (ps.length : Nat), .int .i64 0, .slice none 0 0, .slice none 0 0] (0, 0) _ rfl (setRow_heap _ _ _ _ _ _ hR1) Tryd.underlying27 rfl hsz) rfl ?_
    exact ⟨none, 0, none, 0, [], rfl, ⟨Nat.le_refl _, RdAt.nil, Nat.le_refl _, ⟨RdAt.nil, fun r hr => by cases hr⟩, rfl⟩, ⟨(fun ad e => by cases e), (fun ad e => by cases e), fun r hr => by cases hr⟩, grown_setRow (grown_set hgW (.inr (by simp)) _) (.inr (Nat.le_refl _)) _⟩
end Go.Proofs.YtpeepiboocdnaaaDoor
